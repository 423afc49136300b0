import Derived.Test.YtgamgopghfpegaaGreatDoorKPMA
import Derived.Laws.CopyOwn
set_option linter.all false
open Go.Proofs.Tryz
set_option maxRecDepth 100000
set_option maxHeartbeats 4000000
namespace Go.Proofs.YtgamgopghfpegaaGreatDoor
open Go.RowKit
namespace Pn
theorem MV v W:(Instr.typeAssert (.iface 294 v) 167 294 true).run prog W=.ok (.tuple #[v,true]) W:=aB
theorem MW v W:(Instr.typeAssert (.iface 297 v) 167 297 true).run prog W=.ok (.tuple #[v,true]) W:=aB
theorem MX v W:(Instr.typeAssert (.iface 299 v) 167 299 true).run prog W=.ok (.tuple #[v,true]) W:=aB
theorem MY v W:(Instr.typeAssert (.iface 149 v) 167 149 true).run prog W=.ok (.tuple #[v,true]) W:=aB
theorem MZ v W:(Instr.typeAssert (.iface 152 v) 167 152 true).run prog W=.ok (.tuple #[v,true]) W:=aB
theorem Ui v W:(Instr.typeAssert (.iface 266 v) 264 266 true).run prog W=.ok (.tuple #[v,true]) W:=aB
theorem Uj v W:(Instr.typeAssert (.iface 128 v) 264 128 true).run prog W=.ok (.tuple #[v,true]) W:=aB
theorem Sr v W:(Instr.typeAssert (.iface 128 v) 264 266 true).run prog W=.ok (.tuple #[.agg #[.int .i64 0,zE,zE,zE,false],false]) W:=aB
theorem JA v W:(Instr.typeAssert (.iface 297 v) 167 294 true).run prog W=.ok (.tuple #[.agg #[.int .i64 0,zE,zN,zN,zN],false]) W:=aB
theorem JB v W:(Instr.typeAssert (.iface 299 v) 167 294 true).run prog W=.ok (.tuple #[.agg #[.int .i64 0,zE,zN,zN,zN],false]) W:=aB
theorem JC v W:(Instr.typeAssert (.iface 149 v) 167 294 true).run prog W=.ok (.tuple #[.agg #[.int .i64 0,zE,zN,zN,zN],false]) W:=aB
theorem JD v W:(Instr.typeAssert (.iface 152 v) 167 294 true).run prog W=.ok (.tuple #[.agg #[.int .i64 0,zE,zN,zN,zN],false]) W:=aB
theorem JE v W:(Instr.typeAssert (.iface 299 v) 167 297 true).run prog W=.ok (.tuple #[.agg #[.int .i64 0,zN],false]) W:=aB
theorem JF v W:(Instr.typeAssert (.iface 149 v) 167 297 true).run prog W=.ok (.tuple #[.agg #[.int .i64 0,zN],false]) W:=aB
theorem JG v W:(Instr.typeAssert (.iface 152 v) 167 297 true).run prog W=.ok (.tuple #[.agg #[.int .i64 0,zN],false]) W:=aB
theorem JH v W:(Instr.typeAssert (.iface 149 v) 167 299 true).run prog W=.ok (.tuple #[.agg #[zN,zN],false]) W:=aB
theorem JI v W:(Instr.typeAssert (.iface 152 v) 167 299 true).run prog W=.ok (.tuple #[.agg #[zN,zN],false]) W:=aB
theorem JJ v W:(Instr.typeAssert (.iface 152 v) 167 149 true).run prog W=.ok (.tuple #[.agg #[zN,zN],false]) W:=aB
theorem PK W:(Instr.typeAssert .nilIface 167 294 true).run prog W=.ok (.tuple #[.agg #[.int .i64 0,zE,zN,zN,zN],false]) W:=aB
theorem PL W:(Instr.typeAssert .nilIface 167 297 true).run prog W=.ok (.tuple #[.agg #[.int .i64 0,zN],false]) W:=aB
theorem PN W:(Instr.typeAssert .nilIface 167 299 true).run prog W=.ok (.tuple #[.agg #[zN,zN],false]) W:=aB
theorem PO W:(Instr.typeAssert .nilIface 167 149 true).run prog W=.ok (.tuple #[.agg #[zN,zN],false]) W:=aB
theorem PQ W:(Instr.typeAssert .nilIface 167 152 true).run prog W=.ok (.tuple #[.agg #[zN,zN],false]) W:=aB
end Pn
namespace Pn
open Mf Ed
variable{w w' W I Y:zW}{A:Nat→Prop}{J Q fb:Nat}{cap:Int}{G:List Int}{D:List Kp}
def mg:Fi→Nat
 | .man _ _=>0
 | .idx _ _=>1
 | .wants _ _=>2
 | .list _ _=>3
 | .ord _ _=>4
def bump(G:List Int)(j:Nat):List Int:=G.set j (wrap64 (G[j]?.getD 0+1))
theorem dB.bump(h:dB A w J Q fb cap G D)(j:Nat):dB A (w.setCell ⟨J,3+j,none⟩ (.int .i64 (wrap64 (G[j]?.getD 0+1)))) J Q fb cap (bump G j) D:=by
 refine⟨h.f0.set ae,h.f1.set ae,h.f2.set ae,fun i c f=>?_,?_,h.ne,h.hd,h.hf⟩
 ·unfold Pn.bump at f
  by_cases e:j=i
  ·subst e
   rw[List.getElem?_set_self'] at f;cases e2:G[j]? with
   |none=>rw[e2] at f;simp at f
   |some E=>
    rw[e2] at f;simp at f;rw[←f];exact iq (h.cn j E e2) _
  ·rw[List.getElem?_set_ne e] at f
   exact(h.cn i c f).set ae
 ·obtain⟨L,F,M⟩:=h.map
  refine⟨L,F.of_block (aM _ _ _ _ (fun e=>h.ne e.symm)),M.turn ((aj.refl A w).set (fun _=>h.hd) _)⟩
theorem M0{M}{f}w(h:dB A w J Q fb cap G D)(E:iC A w M f)(hc:G.length=5):
  zC 188 #[.pointer (some (J,0)),M] w fun e w'=>e=.returned (.tuple #[])∧w'=w.setCell (J,3+mg f) ((wrap64 (G[mg f]?.getD 0+1))):=by
 match G,hc with
 |[k0,k1,k2,k3,k4],_=>
 have S:=h.cn 0 k0 rfl;have T:=h.cn 1 k1 rfl;have U:=h.cn 2 k2 rfl;have V:=h.cn 3 k3 rfl;have g4:=h.cn 4 k4 rfl;clear h;obtain⟨c0,f0⟩:=S;obtain⟨c1,f1⟩:=T;obtain⟨c2,f2⟩:=U;obtain⟨c3,f3⟩:=V;obtain⟨c4,f4⟩:=g4;cases f with
 |man F m=>
  obtain⟨rv,xv,sv,rfl,_⟩:=E;have t0:=MV (.agg #[F,m.p,rv,xv,sv]) w;go_enter func188,ntmps188;go_wp2;exact fQ (by simp[results,results188,go_sem]) rfl ⟨rfl,rfl⟩
 |idx F vs=>
  obtain⟨u,rfl,_⟩:=E;have t0:=JA (.agg #[F,u]) w;have t1:=MW (.agg #[F,u]) w;go_enter func188,ntmps188;go_wp2;exact fQ (by simp[results,results188,go_sem]) rfl ⟨rfl,rfl⟩
 |wants O R=>
  obtain⟨a,b,rfl,_⟩:=E;have t0:=JB (.agg #[a,b]) w;have t1:=JE (.agg #[a,b]) w;have t2:=MX (.agg #[a,b]) w;go_enter func188,ntmps188;go_wp2;exact fQ (by simp[results,results188,go_sem]) rfl ⟨rfl,rfl⟩
 |list O R=>
  obtain⟨a,b,rfl,_⟩:=E;have t0:=JC (.agg #[a,b]) w;have t1:=JF (.agg #[a,b]) w;have t2:=JH (.agg #[a,b]) w;have t3:=MY (.agg #[a,b]) w;go_enter func188,ntmps188;go_wp2;exact fQ (by simp[results,results188,go_sem]) rfl ⟨rfl,rfl⟩
 |ord O R=>
  obtain⟨a,b,rfl,_⟩:=E;have t0:=JD (.agg #[a,b]) w;have t1:=JG (.agg #[a,b]) w;have t2:=JI (.agg #[a,b]) w;have t3:=JJ (.agg #[a,b]) w;have t4:=MZ (.agg #[a,b]) w;go_enter func188,ntmps188;go_wp2;exact fQ (by simp[results,results188,go_sem]) rfl ⟨rfl,rfl⟩
end Pn
namespace Rn
open Mf
theorem iN{x y:zA}(h:x≠y):(x.toList==y.toList)=false:=by
 rw[bX];intro e;apply h;rw[cP,cP] at e;exact tV (pG.1 e)
end Rn
namespace Pn
open Mf
variable{A A2:Nat→Prop}{w W:zW}{a:Option Addr}{n c:Nat}
theorem RdA.at{α}{enc}{w W}{v}{L:List α}{s:Nat}(h:RdA A enc w v L)(F:∀x,(enc x)=s)(M:0<s)(O:Below w w W)(i:Nat)(S:i<L):
  ∃b off c,v=.slice (some (b,off)) L c∧∀j u,(enc L[i])[j]?=some u→W.cell? ⟨b,off+i*s+j,none⟩=some u:=by
 rcases h.below O with⟨_,h⟩|⟨b,off,c,h,_,R⟩
 ·grind
 ·refine⟨b,off,c,h,fun j u T=>?_⟩
  have f:j<s:=by rw[←F L[i]];exact(dh.1 T).1
  rw[Nat.add_assoc];refine R _ u ?_
  have E:i*s+j<L*s:=by
   have:(i+1)*s≤_:=dD s S;rw[dR] at this;omega
  haveI:Inhabited α:=⟨L[i]⟩
  rw[Ss.flat_get F M L _ E];have U:(i*s+j)/s=i:=by rw[Nat.mul_comm,Nat.mul_add_div M,Nat.div_eq_of_lt f];omega
  have V:(i*s+j)%s=j:=by rw[Nat.mul_comm,Nat.mul_add_mod];exact Nat.mod_eq_of_lt f
  grind
theorem fd3{W:zW}{r:Nat}{t}{x y z}(h:W.heap[r]?=some (.cells #[x,y,z] t)):(W.cell? (r,0)=x∧W.frozen? (r,0)=false)∧(W.cell? (r,1)=y∧W.frozen? (r,1)=false)∧(W.cell? (r,2)=z∧W.frozen? (r,2)=false):=by
 simp only[World.cell?,World.frozen?,h];simp
theorem Hu:∀x,(aZ x).length=3:=fun _=>rfl
theorem int_ne{a b}(h:a≠b):(((a:Nat):Int)==(b:Int))=false:=by
 grind
theorem rdM{L}(h:RdA A Sm.mc w (.slice a n c) L)(E:Below w w W)(i:Nat)(F:i<L):∃b o,a=some ⟨b,o,none⟩∧W.cell? (b,o+i*2)=some (.string L[i].1)∧W.cell? (b,o+i*2+1)=some (.string L[i].2):=by
 obtain⟨b,o,c,e,f⟩:=h.at jB aA E i F;injection e with e;exact⟨b,o,e,f 0 _ rfl,f 1 _ rfl⟩
theorem rdP{L}(h:RdA A aZ w (.slice a n c) L)(E:Below w w W)(i:Nat)(F:i<L):∃b o,a=some ⟨b,o,none⟩∧W.cell? (b,o+i*3)=some (.int .i64 (L[i].1:Nat))∧W.cell? (b,o+i*3+1)=some (.string L[i].2.1)∧W.cell? (b,o+i*3+2)=some (.string L[i].2.2):=by
 obtain⟨b,o,c,e,f⟩:=h.at Hu aA E i F;injection e with e;exact⟨b,o,e,f 0 _ rfl,f 1 _ rfl,f 2 _ rfl⟩
theorem rdW{L}(h:RdA A Sw.mc w (.slice a n c) L)(E:Below w w W)(i:Nat)(F:i<L):∃b o,a=some ⟨b,o,none⟩∧W.cell? (b,o+i*3)=some (.string L[i].1)∧W.cell? (b,o+i*3+1)=some (.string L[i].2.1)∧W.cell? (b,o+i*3+2)=some (.string L[i].2.2):=by
 obtain⟨b,o,c,e,f⟩:=h.at (s:=3) (fun _=>rfl) aA E i F;injection e with e;exact⟨b,o,e,f 0 _ rfl,f 1 _ rfl,f 2 _ rfl⟩
theorem rdS{L}(h:RdA A dU w (.slice a n c) L)(f:Below w w W)(i:Nat)(E:i<L):∃b o,a=some ⟨b,o,none⟩∧W.cell? (b,o+i)=some (.string L[i]):=by
 obtain⟨b,o,c,e,F⟩:=h.at Ee aA f i E;injection e with e;exact⟨b,o,e,by have:=F 0 _ rfl;grind⟩
abbrev mV(x:Mo):zV:=.agg #[.string x.1,.string x.2]
abbrev pV(x:Pb):zV:=.agg #[.int .i64 (x.1:Nat),.string x.2.1,.string x.2.2]
abbrev wV(x:So):zV:=.agg #[.string x.1,.string x.2.1,.string x.2.2]
abbrev PR(t:TypeId)(x y:zV)(r:Bool):Prop:=∀w,(binOp .eql t x y).run prog w=.ok (.bool r) w∧(binOp .neq t x y).run prog w=.ok (.bool (!r)) w
theorem iz(x y:zA):(x.toList==y.toList)=decide (x=y):=by
 by_cases h:x=y
 ·subst h;simp
 ·rw[Rn.iN h,br h]
theorem Ef{x y}{r}(h:r=true↔x=y):PR 68 (mV x) (mV y) r:=fun w=>by
 obtain⟨a,b⟩:=x;obtain⟨c,d⟩:=y;have e:r=(a.toList==c.toList&&b.toList==d.toList):=by rw[iz,iz,dJ,h];simp
 rw[run_eql_struct,run_neq_struct,run_equalIn_agg w 9999 68 _ _ aB aB,e];cases h1:(a.toList==c.toList)<;>cases h2:(b.toList==d.toList)<;>simp[go_sem,h1,h2]
theorem uB{x y}{r}(h:r=true↔x=y):PR 199 (wV x) (wV y) r:=fun w=>by
 obtain⟨a,b,f⟩:=x;obtain⟨c,d,E⟩:=y;have e:r=(a.toList==c.toList&&(b.toList==d.toList&&f.toList==E.toList)):=by rw[iz,iz,iz,dJ,h];simp
 rw[run_eql_struct,run_neq_struct,run_equalIn_agg w 9999 199 _ _ aB aB,e];cases h1:(a.toList==c.toList)<;>cases h2:(b.toList==d.toList)<;>cases h3:(f.toList==E.toList)<;>simp[go_sem,h1,h2,h3]
theorem qW{x y}{r}(h:r=true↔x=y):PR 72 (pV x) (pV y) r:=fun w=>by
 obtain⟨a,b,f⟩:=x;obtain⟨c,d,E⟩:=y;have e:r=(a==(c:Int)&&(b.toList==d.toList&&f.toList==E.toList)):=by rw[iz,iz,dJ,h];simp;omega
 rw[run_eql_struct,run_neq_struct,run_equalIn_agg w 9999 72 _ _ aB aB,e];cases h1:(((a:Nat):Int)==(c:Int))<;>cases h2:(b.toList==d.toList)<;>cases h3:(f.toList==E.toList)<;>simp[go_sem,h1,h2,h3]
theorem Gi{p}(h:p):true=true↔p:=⟨fun _=>h,fun _=>rfl⟩
theorem Gj{p}(h:¬p):false=true↔p:=⟨fun e=>(by cases e),fun e=>absurd e h⟩
abbrev Eqs{α}(enc:α→List zV)[DecidableEq α](f:Nat):Prop:=∀(A A2:Nat→Prop)(u v:zV)(L M:List α)(w:zW),L.length≤16777216→RdA A enc w u L→RdA A2 enc w v M→zC f #[u,v] w fun e w'=>e=.returned (.bool (decide (L=M)))∧Below w.heap.size w w'
abbrev EqJ{α:Type}(L M:List α)(w:zW)(n f:Nat)(s:zV)(wr:zW):Prop:=∃i:Nat,i≤n∧n-i≤f∧s=.int .i64 i∧Below w.heap.size w wr∧Hid (L.take i=M.take i)
theorem take_at{α:Type}{L M:List α}{i:Nat}(h:i<L)(f:i<M)(E:L.take i=M.take i):L.take (i+1)=M.take (i+1)↔L[i]=M[i]:=by
 rw[←List.take_append_getElem h,←List.take_append_getElem f,E,List.append_right_inj];simp
theorem eqs:Eqs Sm.mc 335∧Eqs aZ 337∧Eqs Sw.mc 341∧Eqs dU 94∧Eqs Sm.mc 44∧Eqs aZ 45∧Eqs dU 46:=by
 refine⟨?_,?_,?_,?_,?_,?_,?_⟩
 all_goals
  intro A A2 u v L M w hL O R;obtain⟨a1,c1,rfl⟩:=O.len;obtain⟨a2,c2,rfl⟩:=R.len;have F:=zH (And.intro O R);obtain⟨r,hr⟩:∃r,decide (L=M)=r:=⟨_,rfl⟩;have HD:=zH hr;obtain⟨n,hn⟩:∃n,L.length=n:=⟨_,rfl⟩;obtain⟨m,hm⟩:∃m,M.length=m:=⟨_,rfl⟩;have T:Hid (_∧_):=⟨hn,hm⟩;rw[hr,hn,hm];rw[hn] at hL;clear O R hr hn hm;by_cases E:n=m
  ·subst E
   have qm:(n==(n:Int))=true:=ah
   first
    |(first|go_enter func335,ntmps335|go_enter func337,ntmps337|go_enter func341,ntmps341|go_enter func94,ntmps94
      go_wp2;go_loopg [13] n (fun gg s wr=>EqJ L M w n gg s wr))
    |(first|go_enter func44,ntmps44|go_enter func45,ntmps45|go_enter func46,ntmps46
      go_wp2;go_loopg [5] n (fun gg s wr=>EqJ L M w n gg s wr))
   case atStart=>exact⟨0,ae,ae,rfl,af _ _,(by simp:_=_)⟩
   case round=>
    obtain⟨i,hi,hg,rfl,f,HJ⟩:=hrel;by_cases V:i<n
    ·have O:i<L:=by rw[T.out.1];exact V
     have R:i<M:=by rw[T.out.2];exact V
     have a0:i<(n:Int):=ae;have HT:=take_at O R HJ.out
     first
      |(obtain⟨b,o,rfl,x0,x1,x2⟩:=rdP F.out.1 f i O;obtain⟨b',o',rfl,y0,y1,y2⟩:=rdP F.out.2 f i R)
      |(obtain⟨b,o,rfl,x0,x1,x2⟩:=rdW F.out.1 f i O;obtain⟨b',o',rfl,y0,y1,y2⟩:=rdW F.out.2 f i R)
      |(obtain⟨b,o,rfl,x0,x1⟩:=rdM F.out.1 f i O;obtain⟨b',o',rfl,y0,y1⟩:=rdM F.out.2 f i R)
      |(obtain⟨b,o,rfl,x0⟩:=rdS F.out.1 f i O;obtain⟨b',o',rfl,y0⟩:=rdS F.out.2 f i R)
     have HT:=zH HT;generalize L[i]=x at*;generalize M[i]=y at*;clear F;by_cases he:x=y
     ·have a3:=zH (HT.out.2 he)
      first|have S:=fun w=>(qW (Gi he) w).2|have S:=fun w=>(uB (Gi he) w).2|have S:=fun w=>(Ef (Gi he) w).2|have S:=(iz x y).trans (bu he)
      go_upto_region 6 with fail;go_quiet (fail);generalize U:World.drewN _ _=W4
      replace f:Below w.heap.size w W4:=by rw[←U];exact bw f _
      clear U;go_wp2;go_roundg (n-(i+1))
      case measure=>omega
      grind
     ·obtain rfl:r=false:=HD.out.symm.trans (br fun e=>he (HT.out.1 (by rw[e])))
      first|have S:=fun w=>(qW (Gj he) w).2|have S:=fun w=>(uB (Gj he) w).2|have S:=fun w=>(Ef (Gj he) w).2|have S:=Rn.iN he
      go_upto_region 6 with fail;go_quiet (fail);generalize U:World.drewN _ _=W4
      replace f:Below w.heap.size w W4:=by rw[←U];exact bw f _
      clear U;go_wp2;go_ret;exact⟨rfl,f⟩
    ·have a0:¬i<(n:Int):=ae
     obtain rfl:r=true:=HD.out.symm.trans (bu (by have h:=HJ.out;rwa [cV (by rw[T.out.1];omega),cV (by rw[T.out.2];omega)] at h));go_wp2;go_ret;exact⟨rfl,f⟩
  ·obtain rfl:r=false:=HD.out.symm.trans (br fun e=>E (by rw[←T.out.1,←T.out.2,e]))
   have qm:=int_ne E
   first|go_enter func335,ntmps335|go_enter func337,ntmps337|go_enter func341,ntmps341|go_enter func94,ntmps94|go_enter func44,ntmps44|go_enter func45,ntmps45|go_enter func46,ntmps46
   go_wp2;go_ret;exact⟨rfl,af _ _⟩
end Pn
namespace Pn
open Mf
variable{A:Nat→Prop}
def Small:Fi→Prop
 | .man _ m=>m.R.length≤100000∧m.X.length≤100000∧m.S.length≤100000
 | .idx _ M=>M.length≤100000
 | .wants E f=>E.length≤100000∧f.length≤100000
 | .list E f=>E.length≤100000∧f.length≤1000000
 | .ord F f=>F.length≤100000∧f.length≤100000
theorem PT(a b:zA):(a.toList==b.toList)=true↔a=b:=by
 constructor
 ·intro h
  by_cases e:a=b
  ·exact e
  ·rw[Rn.iN e] at h;cases h
 grind
theorem Co(a b:Nat):(((a:Nat):Int)==(b:Int))=true↔a=b:=by
 grind
open Classical in
theorem M1 pr f(p p':zA)Rv a7 R R' Xv a9 X X' Sv a8 S S' w(lR:R.length≤100000)(lX:X.length≤100000)(lS:S.length≤100000)(hR:RdA A Sm.mc w Rv R)(hX:RdA A Sm.mc w Xv X)(hS:RdA A Sw.mc w Sv S)(aa:RdA A Sm.mc w a7 R')(ad:RdA A Sm.mc w a9 X')(ab:RdA A Sw.mc w a8 S'):
  zC 340 #[.agg #[(pr:Nat),p,Rv,Xv,Sv],.iface 294 (.agg #[(f:Nat),p',a7,a9,a8])] w fun e w'=>e=.returned ((decide (pr=f∧p=p'∧R=R'∧X=X'∧S=S')))∧Below w w w':=by
 have KR:=zH (fun W hb=>eqs.1 _ _ Rv a7 R R' W ae (hR.below hb) (aa.below hb));obtain⟨aR,cR,eR⟩:=hR.len;obtain⟨E,O,az⟩:=aa.len;have KX:=zH (fun W hb=>eqs.1 _ _ Xv a9 X X' W ae (hX.below hb) (ad.below hb));obtain⟨aX,cX,eX⟩:=hX.len;obtain⟨M,U,b6⟩:=ad.len;have KS:=zH (fun W hb=>eqs.2.2.1 _ _ Sv a8 S S' W ae (hS.below hb) (ab.below hb));obtain⟨aS,cS,eS⟩:=hS.len;obtain⟨F,T,b5⟩:=ab.len
 have HE:decide (pr=f∧p=p'∧R=R'∧X=X'∧S=S')=((pr==(f:Int))&&(p.toList==p'.toList)&&(decide (R=R'))&&(decide (X=X'))&&(decide (S=S'))):=by
  rw[dJ];simp only[ot,eL,PT,Co,and_assoc]
 rw[HE];clear HE;clear hR aa;clear hX ad;clear hS ab;subst eR;subst az;subst eX;subst b6;subst eS;subst b5;generalize b9:(((pr:Nat):Int)==(f:Int))=b0;generalize a6:(p.toList==p'.toList)=b1;generalize decide (R=R')=b2 at*;generalize decide (X=X')=b3 at*;generalize decide (S=S')=b4 at*;generalize R.length=nR at*;generalize R'.length=V at*;generalize X.length=nX at*;generalize X'.length=a1 at*;generalize S.length=nS at*;generalize S'.length=a0 at*;have t0:=MV (.agg #[f,p',.slice E V O,.slice M a1 U,.slice F a0 T]) (w.alloc (.cells #[pr,p,.slice aR nR cR,.slice aX nX cX,.slice aS nS cS] 294));have a6:Below w.heap.size w (w.alloc (.cells #[pr,p,.slice aR nR cR,.slice aX nX cX,.slice aS nS cS] 294)):=(af _ _).alloc (ai _) _;have HB:Hid (Below w.heap.size w ((w.alloc _).alloc (.cells #[f,p',.slice E V O,.slice M a1 U,.slice F a0 T] 294))):=a6.alloc a6.size _
 have HC:Hid (∀W,Below ((w.alloc (.cells #[(pr:Nat),p,.slice aR nR cR,.slice aX nX cX,.slice aS nS cS] 294)).alloc (.cells #[(f:Nat),p',.slice E V O,.slice M a1 U,.slice F a0 T] 294)) ((w.alloc (.cells #[.int .i64 (pr:Nat),.string p,.slice aR nR cR,.slice aX nX cX,.slice aS nS cS] 294)).alloc (.cells #[.int .i64 (f:Nat),.string p',.slice E V O,.slice M a1 U,.slice F a0 T] 294)) W→W.cell? (w,0)=some (.int .i64 (pr:Nat))∧W.cell? ⟨w,1,none⟩=some (.string p)∧W.cell? ⟨w,2,none⟩=some (.slice aR nR cR)∧W.cell? ⟨w,3,none⟩=some (.slice aX nX cX)∧W.cell? ⟨w,4,none⟩=some (.slice aS nS cS)∧W.cell? ⟨w+1,0,none⟩=some (.int .i64 (f:Nat))∧W.cell? ⟨w+1,1,none⟩=some (.string p')∧W.cell? ⟨w+1,2,none⟩=some (.slice E V O)∧W.cell? ⟨w+1,3,none⟩=some (.slice M a1 U)∧W.cell? ⟨w+1,4,none⟩=some (.slice F a0 T)):=fun W hb=>by
  refine⟨?_,?_,?_,?_,?_,?_,?_,?_,?_,?_⟩<;>(rw[hb.cell (by simp<;>omega)];simp[go_sem])
 clear a6;go_enter func340,ntmps340;go_upto_region 4 with fail;clear t0;generalize b7:((w.alloc (.cells #[.int .i64 (pr:Nat),.string p,.slice aR nR cR,.slice aX nX cX,.slice aS nS cS] 294)).alloc (.cells #[.int .i64 (f:Nat),.string p',.slice E V O,.slice M a1 U,.slice F a0 T] 294))=I at*;generalize ba:w.heap.size=bx at*;clear b7;obtain⟨x0,x1,x2,x3,x4,y0,y1,y2,y3,y4⟩:=HC.out I (af _ _);have a5:=HB;clear HB;cases b0
 ·go_wp2
  go_ret;exact⟨rfl,by have h:=a5.out;grind⟩
 ·cases b1
  ·go_wp2
   go_ret;exact⟨rfl,by have h:=a5.out;grind⟩
  ·go_wp2_with (go_at_call 335;fail)
   go_at_call 335;refine(KR.out _ iQ).mono ?_;rintro e v2 ⟨rfl,aq⟩;have a2:=zH ((a5.out).trans (aq.mono (by have h:=(a5.out).size;omega)));have a4:=zH aq;obtain⟨Wz,WB,WC,WE,WG,WH,WI,WJ,WK,WL⟩:=HC.out v2 a4.out;cases b2
   ·go_wp2
    go_ret;exact⟨rfl,by have h:=a2.out;grind⟩
   ·go_wp2_with (go_at_call 335;fail)
    go_at_call 335;refine(KX.out _ iQ).mono ?_;rintro e v3 ⟨rfl,av⟩;have a3:=zH ((a2.out).trans (av.mono (by have h:=(a2.out).size;omega)));have an:=zH (a4.out.trans (av.mono a4.out.size));obtain⟨WM,WN,WO,WQ,WR,WS,WT,WU,WV,WW⟩:=HC.out v3 an.out;cases b3
    ·go_wp2
     go_ret;exact⟨rfl,by have h:=a3.out;grind⟩
    ·go_wp2_with (go_at_call 341;fail)
     go_at_call 341;refine(KS.out _ iQ).mono ?_;rintro e v4 ⟨rfl,b8⟩;have ak:=zH ((a3.out).trans (b8.mono (by have h:=(a3.out).size;omega)));go_wp2;go_ret;exact⟨ah,by have h:=ak.out;grind⟩
theorem M3 V(p:zA)f S M F U R E T O w:zC 340 #[.agg #[(V:Nat),p,.slice f S M,.slice F U R,.slice E T O],.nilIface] w fun e w'=>e=.returned (false)∧Below w w w':=by
 have t0:=PK (w.alloc (.cells #[V,p,.slice f S M,.slice F U R,.slice E T O] 294));have HB:Hid (Below w.heap.size w (w.alloc (.cells #[V,p,.slice f S M,.slice F U R,.slice E T O] 294))):=(af _ _).alloc (ai _) _;go_enter func340,ntmps340;go_wp2;go_ret;exact⟨rfl,HB.out⟩
open Classical in
theorem M4 R f a0 Sz S E w(a8:S.length≤100000)(V:RdA A dU w a0 S)(SD:RdA A dU w Sz E):
  zC 342 #[.agg #[(R:Nat),a0],.iface 297 (.agg #[(f:Nat),Sz])] w fun e w'=>e=((decide (R=f∧S=E)))∧Below w w w':=by
 have a2:=zH (fun W hb=>eqs.2.2.2.1 _ _ a0 Sz S E W ae (V.below hb) (SD.below hb));obtain⟨F,M,a3⟩:=V.len;obtain⟨JK,JM,Vq⟩:=SD.len
 have HE:decide (R=f∧S=E)=((R==(f:Int))&&(decide (S=E))):=by
  rw[dJ];simp only[ot,eL,Co]
 rw[HE];clear HE;clear V SD;subst a3;subst Vq;generalize a6:(((R:Nat):Int)==(f:Int))=b0;generalize decide (S=E)=b1 at*;generalize S.length=O at*;generalize E.length=JN at*;have t0:=MW (.agg #[f,.slice JK JN JM]) (w.alloc (.cells #[R,.slice F O M] 297));have U:Below w.heap.size w (w.alloc (.cells #[R,.slice F O M] 297)):=(af _ _).alloc (ai _) _;have HB:Hid (Below w.heap.size w ((w.alloc _).alloc (.cells #[f,.slice JK JN JM] 297))):=U.alloc U.size _
 have HC:Hid (∀W,Below ((w.alloc (.cells #[R,.slice F O M] 297)).alloc (.cells #[f,.slice JK JN JM] 297)) ((w.alloc (.cells #[.int .i64 R,.slice F O M] 297)).alloc (.cells #[.int .i64 f,.slice JK JN JM] 297)) W→W.cell? (w,0)=some (.int .i64 R)∧W.cell? (w,1)=some (.slice F O M)∧W.cell? ⟨w+1,0,none⟩=some (.int .i64 f)∧W.cell? ⟨w+1,1,none⟩=some (.slice JK JN JM)):=fun W hb=>by
  refine⟨?_,?_,?_,?_⟩<;>(rw[hb.cell (by simp<;>omega)];simp[go_sem])
 clear U;go_enter func342,ntmps342;go_upto_region 4 with fail;clear t0;generalize a4:((w.alloc (.cells #[.int .i64 (R:Nat),.slice F O M] 297)).alloc (.cells #[.int .i64 (f:Nat),.slice JK JN JM] 297))=I at*;generalize a7:w.heap.size=bx at*;clear a4;obtain⟨x0,x1,y0,y1⟩:=HC.out I (af _ _);have T:=HB;clear HB;cases b0
 ·go_wp2
  go_ret;exact⟨rfl,by have h:=T.out;grind⟩
 ·go_wp2_with (go_at_call 94;fail)
  go_at_call 94;refine(a2.out _ iQ).mono ?_;rintro e v1 ⟨rfl,a5⟩;have a1:=zH ((T.out).trans (a5.mono (by have h:=(T.out).size;omega)));go_wp2;go_ret;exact⟨ah,by have h:=a1.out;grind⟩
theorem M5 M f F E w:zC 342 #[.agg #[(M:Nat),.slice f F E],.nilIface] w fun e w'=>e=(false)∧Below w w w':=by
 have t0:=PL (w.alloc (.cells #[M,.slice f F E] 297));have O:Hid (Below w.heap.size w (w.alloc (.cells #[M,.slice f F E] 297))):=(af _ _).alloc (ai _) _;go_enter func342,ntmps342;go_wp2;go_ret;exact⟨rfl,O.out⟩
open Classical in
theorem Gk a3 Gl V f a4 zO ps E w(av:V.length≤100000)(az:ps.length≤100000)(a1:RdA A Sm.mc w a3 V)(a2:RdA A aZ w a4 ps)(Gm:RdA A Sm.mc w Gl f)(Gn:RdA A aZ w zO E):
  zC 343 #[.agg #[a3,a4],.iface 299 (.agg #[Gl,zO])] w fun e w'=>e=((decide (V=f∧ps=E)))∧Below w w w':=by
 have a9:=zH (fun W hb=>eqs.1 _ _ a3 Gl V f W ae (a1.below hb) (Gm.below hb));obtain⟨F,O,ab⟩:=a1.len;obtain⟨uO,uP,SE⟩:=Gm.len;have aa:=zH (fun W hb=>eqs.2.1 _ _ a4 zO ps E W ae (a2.below hb) (Gn.below hb));obtain⟨M,R,ad⟩:=a2.len;obtain⟨mh,mo,SF⟩:=Gn.len
 have HE:decide (V=f∧ps=E)=((decide (V=f))&&(decide (ps=E))):=by
  rw[dJ];simp only[ot,eL]
 rw[HE];clear HE;clear a1 Gm;clear a2 Gn;subst ab;subst SE;subst ad;subst SF;generalize decide (V=f)=b0 at*;generalize decide (ps=E)=b1 at*;generalize V.length=S at*;generalize f.length=uQ at*;generalize ps.length=T at*;generalize E.length=mq at*;have t0:=MX (.agg #[.slice uO uQ uP,.slice mh mq mo]) (w.alloc (.cells #[.slice F S O,.slice M T R] 299));have a0:Below w.heap.size w (w.alloc (.cells #[.slice F S O,.slice M T R] 299)):=(af _ _).alloc (ai _) _;have HB:Hid (Below w.heap.size w ((w.alloc _).alloc (.cells #[.slice uO uQ uP,.slice mh mq mo] 299))):=a0.alloc a0.size _
 have HC:Hid (∀W,Below ((w.alloc (.cells #[.slice F S O,.slice M T R] 299)).alloc (.cells #[.slice uO uQ uP,.slice mh mq mo] 299)) ((w.alloc (.cells #[.slice F S O,.slice M T R] 299)).alloc (.cells #[.slice uO uQ uP,.slice mh mq mo] 299)) W→W.cell? (w,0)=some (.slice F S O)∧W.cell? (w,1)=some (.slice M T R)∧W.cell? ⟨w+1,0,none⟩=some (.slice uO uQ uP)∧W.cell? ⟨w+1,1,none⟩=some (.slice mh mq mo)):=fun W hb=>by
  refine⟨?_,?_,?_,?_⟩<;>(rw[hb.cell (by simp<;>omega)];simp[go_sem])
 clear a0;go_enter func343,ntmps343;go_upto_region 4 with fail;clear t0;generalize ak:((w.alloc (.cells #[.slice F S O,.slice M T R] 299)).alloc (.cells #[.slice uO uQ uP,.slice mh mq mo] 299))=I at*;generalize aq:w.heap.size=bx at*;clear ak;obtain⟨x0,x1,y0,y1⟩:=HC.out I (af _ _);have a5:=HB;clear HB
 go_wp2_with (go_at_call 335;fail)
 go_at_call 335;refine(a9.out _ iQ).mono ?_;rintro e v0 ⟨rfl,a8⟩;have U:=zH ((a5.out).trans (a8.mono (by have h:=(a5.out).size;omega)));have a7:=zH a8;obtain⟨Vr,Vs,Vt,Vu⟩:=HC.out v0 a7.out;cases b0
 ·go_wp2
  go_ret;exact⟨rfl,by have h:=U.out;grind⟩
 ·go_wp2_with (go_at_call 337;fail)
  go_at_call 337;refine(aa.out _ iQ).mono ?_;rintro e v1 ⟨rfl,an⟩;have a6:=zH ((U.out).trans (an.mono (by have h:=(U.out).size;omega)));go_wp2;go_ret;exact⟨ah,by have h:=a6.out;grind⟩
theorem Gp f O F E R M w:zC 343 #[.agg #[.slice f O F,.slice E R M],.nilIface] w fun e w'=>e=(false)∧Below w w w':=by
 have t0:=PN (w.alloc (.cells #[.slice f O F,.slice E R M] 299));have S:Hid (Below w.heap.size w (w.alloc (.cells #[.slice f O F,.slice E R M] 299))):=(af _ _).alloc (ai _) _;go_enter func343,ntmps343;go_wp2;go_ret;exact⟨rfl,S.out⟩
open Classical in
theorem JO V Gl ms S a2 zO w(a9:ms.length≤100000)(U:RdA A Sm.mc w V ms)(Gm:RdA A Sm.mc w Gl S)(a7:∃a n c,a2=.slice a n c)(Vv:∃a n c,zO=.slice a n c):
  zC 334 #[.agg #[V,a2],.iface 149 (.agg #[Gl,zO])] w fun e w'=>e=((decide (ms=S)))∧Below w w w':=by
 have a3:=zH (fun W hb=>eqs.1 _ _ V Gl ms S W ae (U.below hb) (Gm.below hb));obtain⟨f,F,a4⟩:=U.len;obtain⟨uO,uP,SE⟩:=Gm.len;obtain⟨E,R,M,rfl⟩:=a7;obtain⟨mh,mq,mo,rfl⟩:=Vv;clear U Gm;subst a4;subst SE;generalize decide (ms=S)=b0 at*;generalize ms.length=O at*;generalize S.length=uQ at*;have t0:=MY (.agg #[.slice uO uQ uP,.slice mh mq mo]) (w.alloc (.cells #[.slice f O F,.slice E R M] 149));have T:Below w.heap.size w (w.alloc (.cells #[.slice f O F,.slice E R M] 149)):=(af _ _).alloc (ai _) _;have HB:Hid (Below w.heap.size w ((w.alloc _).alloc (.cells #[.slice uO uQ uP,.slice mh mq mo] 149))):=T.alloc T.size _
 have HC:Hid (∀W,Below ((w.alloc (.cells #[.slice f O F,.slice E R M] 149)).alloc (.cells #[.slice uO uQ uP,.slice mh mq mo] 149)) ((w.alloc (.cells #[.slice f O F,.slice E R M] 149)).alloc (.cells #[.slice uO uQ uP,.slice mh mq mo] 149)) W→W.cell? (w,0)=some (.slice f O F)∧W.cell? (w,1)=some (.slice E R M)∧W.cell? ⟨w+1,0,none⟩=some (.slice uO uQ uP)∧W.cell? ⟨w+1,1,none⟩=some (.slice mh mq mo)):=fun W hb=>by
  refine⟨?_,?_,?_,?_⟩<;>(rw[hb.cell (by simp<;>omega)];simp[go_sem])
 clear T;go_enter func334,ntmps334;go_upto_region 4 with fail;clear t0;generalize a5:((w.alloc (.cells #[.slice f O F,.slice E R M] 149)).alloc (.cells #[.slice uO uQ uP,.slice mh mq mo] 149))=I at*;generalize a8:w.heap.size=bx at*;clear a5;obtain⟨x0,x1,y0,y1⟩:=HC.out I (af _ _);have a0:=HB;clear HB
 go_wp2_with (go_at_call 335;fail)
 go_at_call 335;refine(a3.out _ iQ).mono ?_;rintro e v0 ⟨rfl,a6⟩;have a1:=zH ((a0.out).trans (a6.mono (by have h:=(a0.out).size;omega)));go_wp2;go_ret;exact⟨ah,by have h:=a1.out;grind⟩
theorem JQ f O F E R M w:zC 334 #[.agg #[.slice f O F,.slice E R M],.nilIface] w fun e w'=>e=(false)∧Below w w w':=by
 have t0:=PO (w.alloc (.cells #[.slice f O F,.slice E R M] 149));have S:Hid (Below w.heap.size w (w.alloc (.cells #[.slice f O F,.slice E R M] 149))):=(af _ _).alloc (ai _) _;go_enter func334,ntmps334;go_wp2;go_ret;exact⟨rfl,S.out⟩
open Classical in
theorem M6 a3 SG V f a4 zO ps E w(av:V.length≤100000)(az:ps.length≤100000)(a1:RdA A dU w a3 V)(a2:RdA A aZ w a4 ps)(FH:RdA A dU w SG f)(Gn:RdA A aZ w zO E):
  zC 336 #[.agg #[a3,a4],.iface 152 (.agg #[SG,zO])] w fun e w'=>e=((decide (V=f∧ps=E)))∧Below w w w':=by
 have a9:=zH (fun W hb=>eqs.2.2.2.1 _ _ a3 SG V f W ae (a1.below hb) (FH.below hb));obtain⟨F,O,ab⟩:=a1.len;obtain⟨JR,JU,Vw⟩:=FH.len;have aa:=zH (fun W hb=>eqs.2.1 _ _ a4 zO ps E W ae (a2.below hb) (Gn.below hb));obtain⟨M,R,ad⟩:=a2.len;obtain⟨mh,mo,SF⟩:=Gn.len
 have HE:decide (V=f∧ps=E)=((decide (V=f))&&(decide (ps=E))):=by
  rw[dJ];simp only[ot,eL]
 rw[HE];clear HE;clear a1 FH;clear a2 Gn;subst ab;subst Vw;subst ad;subst SF;generalize decide (V=f)=b0 at*;generalize decide (ps=E)=b1 at*;generalize V.length=S at*;generalize f.length=JV at*;generalize ps.length=T at*;generalize E.length=mq at*;have t0:=MZ (.agg #[.slice JR JV JU,.slice mh mq mo]) (w.alloc (.cells #[.slice F S O,.slice M T R] 152));have a0:Below w.heap.size w (w.alloc (.cells #[.slice F S O,.slice M T R] 152)):=(af _ _).alloc (ai _) _;have HB:Hid (Below w.heap.size w ((w.alloc _).alloc (.cells #[.slice JR JV JU,.slice mh mq mo] 152))):=a0.alloc a0.size _
 have HC:Hid (∀W,Below ((w.alloc (.cells #[.slice F S O,.slice M T R] 152)).alloc (.cells #[.slice JR JV JU,.slice mh mq mo] 152)) ((w.alloc (.cells #[.slice F S O,.slice M T R] 152)).alloc (.cells #[.slice JR JV JU,.slice mh mq mo] 152)) W→W.cell? (w,0)=some (.slice F S O)∧W.cell? (w,1)=some (.slice M T R)∧W.cell? ⟨w+1,0,none⟩=some (.slice JR JV JU)∧W.cell? ⟨w+1,1,none⟩=some (.slice mh mq mo)):=fun W hb=>by
  refine⟨?_,?_,?_,?_⟩<;>(rw[hb.cell (by simp<;>omega)];simp[go_sem])
 clear a0;go_enter func336,ntmps336;go_upto_region 4 with fail;clear t0;generalize ak:((w.alloc (.cells #[.slice F S O,.slice M T R] 152)).alloc (.cells #[.slice JR JV JU,.slice mh mq mo] 152))=I at*;generalize aq:w.heap.size=bx at*;clear ak;obtain⟨x0,x1,y0,y1⟩:=HC.out I (af _ _);have a5:=HB;clear HB
 go_wp2_with (go_at_call 94;fail)
 go_at_call 94;refine(a9.out _ iQ).mono ?_;rintro e v0 ⟨rfl,a8⟩;have U:=zH ((a5.out).trans (a8.mono (by have h:=(a5.out).size;omega)));have a7:=zH a8;obtain⟨Vr,Vs,Vt,Vu⟩:=HC.out v0 a7.out;cases b0
 ·go_wp2
  go_ret;exact⟨rfl,by have h:=U.out;grind⟩
 ·go_wp2_with (go_at_call 337;fail)
  go_at_call 337;refine(aa.out _ iQ).mono ?_;rintro e v1 ⟨rfl,an⟩;have a6:=zH ((U.out).trans (an.mono (by have h:=(U.out).size;omega)));go_wp2;go_ret;exact⟨ah,by have h:=a6.out;grind⟩
theorem M7 f O F E R M w:zC 336 #[.agg #[.slice f O F,.slice E R M],.nilIface] w fun e w'=>e=(false)∧Below w w w':=by
 have t0:=PQ (w.alloc (.cells #[.slice f O F,.slice E R M] 152));have S:Hid (Below w.heap.size w (w.alloc (.cells #[.slice f O F,.slice E R M] 152))):=(af _ _).alloc (ai _) _;go_enter func336,ntmps336;go_wp2;go_ret;exact⟨rfl,S.out⟩
