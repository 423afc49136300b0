import Derived.Test.YtelmkfkgpnadnaaGreatDoorKPMA
import Derived.Test.YtelmkfkgpnadnaaGreatDoorKRWA
set_option linter.unusedSimpArgs false
open Go.Proofs.Tryz
set_option maxRecDepth 100000
set_option maxHeartbeats 1000000
namespace Go.Proofs.YtelmkfkgpnadnaaGreatDoor
open Go.RowKit
namespace Pn
theorem IJ(v:Value)(W:World):(Instr.typeAssert (.iface 386 v) 242 386 true).run prog W=.ok (.tuple #[v,.bool true]) W:=by kernel_rfl
theorem IK(v:Value)(W:World):(Instr.typeAssert (.iface 389 v) 242 389 true).run prog W=.ok (.tuple #[v,.bool true]) W:=by kernel_rfl
theorem IL(v:Value)(W:World):(Instr.typeAssert (.iface 391 v) 242 391 true).run prog W=.ok (.tuple #[v,.bool true]) W:=by kernel_rfl
theorem IP(v:Value)(W:World):(Instr.typeAssert (.iface 176 v) 242 176 true).run prog W=.ok (.tuple #[v,.bool true]) W:=by kernel_rfl
theorem IQ(v:Value)(W:World):(Instr.typeAssert (.iface 179 v) 242 179 true).run prog W=.ok (.tuple #[v,.bool true]) W:=by kernel_rfl
theorem Pr(v:Value)(W:World):(Instr.typeAssert (.iface 369 v) 367 369 true).run prog W=.ok (.tuple #[v,.bool true]) W:=by kernel_rfl
theorem Pt(v:Value)(W:World):(Instr.typeAssert (.iface 201 v) 367 201 true).run prog W=.ok (.tuple #[v,.bool true]) W:=by kernel_rfl
theorem N3(v:Value)(W:World):(Instr.typeAssert (.iface 201 v) 367 369 true).run prog W=.ok (.tuple #[.agg #[.int .i64 0,.string ⟨#[]⟩,.string ⟨#[]⟩,.string ⟨#[]⟩,.bool false],.bool false]) W:=by kernel_rfl
theorem FV(v:Value)(W:World):(Instr.typeAssert (.iface 389 v) 242 386 true).run prog W=.ok (.tuple #[.agg #[.int .i64 0,.string ⟨#[]⟩,.slice none 0 0,.slice none 0 0,.slice none 0 0],.bool false]) W:=by kernel_rfl
theorem FW(v:Value)(W:World):(Instr.typeAssert (.iface 391 v) 242 386 true).run prog W=.ok (.tuple #[.agg #[.int .i64 0,.string ⟨#[]⟩,.slice none 0 0,.slice none 0 0,.slice none 0 0],.bool false]) W:=by kernel_rfl
theorem FX(v:Value)(W:World):(Instr.typeAssert (.iface 176 v) 242 386 true).run prog W=.ok (.tuple #[.agg #[.int .i64 0,.string ⟨#[]⟩,.slice none 0 0,.slice none 0 0,.slice none 0 0],.bool false]) W:=by kernel_rfl
theorem FY(v:Value)(W:World):(Instr.typeAssert (.iface 179 v) 242 386 true).run prog W=.ok (.tuple #[.agg #[.int .i64 0,.string ⟨#[]⟩,.slice none 0 0,.slice none 0 0,.slice none 0 0],.bool false]) W:=by kernel_rfl
theorem FZ(v:Value)(W:World):(Instr.typeAssert (.iface 391 v) 242 389 true).run prog W=.ok (.tuple #[.agg #[.int .i64 0,.slice none 0 0],.bool false]) W:=by kernel_rfl
theorem F0(v:Value)(W:World):(Instr.typeAssert (.iface 176 v) 242 389 true).run prog W=.ok (.tuple #[.agg #[.int .i64 0,.slice none 0 0],.bool false]) W:=by kernel_rfl
theorem F2(v:Value)(W:World):(Instr.typeAssert (.iface 179 v) 242 389 true).run prog W=.ok (.tuple #[.agg #[.int .i64 0,.slice none 0 0],.bool false]) W:=by kernel_rfl
theorem F3(v:Value)(W:World):(Instr.typeAssert (.iface 176 v) 242 391 true).run prog W=.ok (.tuple #[.agg #[.slice none 0 0,.slice none 0 0],.bool false]) W:=by kernel_rfl
theorem F4(v:Value)(W:World):(Instr.typeAssert (.iface 179 v) 242 391 true).run prog W=.ok (.tuple #[.agg #[.slice none 0 0,.slice none 0 0],.bool false]) W:=by kernel_rfl
theorem F5(v:Value)(W:World):(Instr.typeAssert (.iface 179 v) 242 176 true).run prog W=.ok (.tuple #[.agg #[.slice none 0 0,.slice none 0 0],.bool false]) W:=by kernel_rfl
theorem Ll(W:World):(Instr.typeAssert .nilIface 242 386 true).run prog W=.ok (.tuple #[.agg #[.int .i64 0,.string ⟨#[]⟩,.slice none 0 0,.slice none 0 0,.slice none 0 0],.bool false]) W:=by kernel_rfl
theorem Lp(W:World):(Instr.typeAssert .nilIface 242 389 true).run prog W=.ok (.tuple #[.agg #[.int .i64 0,.slice none 0 0],.bool false]) W:=by kernel_rfl
theorem Lq(W:World):(Instr.typeAssert .nilIface 242 391 true).run prog W=.ok (.tuple #[.agg #[.slice none 0 0,.slice none 0 0],.bool false]) W:=by kernel_rfl
theorem Ls(W:World):(Instr.typeAssert .nilIface 242 176 true).run prog W=.ok (.tuple #[.agg #[.slice none 0 0,.slice none 0 0],.bool false]) W:=by kernel_rfl
theorem Lt(W:World):(Instr.typeAssert .nilIface 242 179 true).run prog W=.ok (.tuple #[.agg #[.slice none 0 0,.slice none 0 0],.bool false]) W:=by kernel_rfl
end Pn
namespace Pn
open Mf Ed
variable{w w' W W2 w5:World}{A:Nat→Prop}{db sb fb:Nat}{cap:Int}{cs:List Int}{D:List Kp}
def jI:Fi→Nat
 | .man _ _=>0
 | .idx _ _=>1
 | .wants _ _=>2
 | .list _ _=>3
 | .ord _ _=>4
def bump(cs:List Int)(j:Nat):List Int:=cs.set j (wrap64 (cs[j]?.getD 0+1))
theorem dz.bump(h:dz A w db sb fb cap cs D)(j:Nat):dz A (w.setCell ⟨db,3+j,none⟩ (.int .i64 (wrap64 (cs[j]?.getD 0+1)))) db sb fb cap (bump cs j) D:=by
 refine⟨h.f0.set (by omega),h.f1.set (by omega),h.f2.set (by omega),fun i c hi=>?_,?_,h.ne,h.hd,h.hf⟩
 ·unfold Pn.bump at hi
  by_cases e:j=i
  ·subst e
   rw[List.getElem?_set_self'] at hi;cases e2:cs[j]? with
   |none=>rw[e2] at hi;simp at hi
   |some c0=>
    rw[e2] at hi;simp at hi;rw[←hi];exact od (h.cn j c0 e2) _
  ·rw[List.getElem?_set_ne e] at hi
   exact(h.cn i c hi).set (by omega)
 ·obtain⟨L,h1,h2⟩:=h.map
  refine⟨L,h1.of_block (aM _ _ _ _ (fun e=>h.ne e.symm)),h2.turn ((aj.refl A w).set (a:=⟨db,3+j,none⟩) (fun _=>h.hd) _)⟩
theorem IU{fv:Value}{f:Fi}(w:World)(h:dz A w db sb fb cap cs D)(hf:fc A w fv f)(hc:cs.length=5):
  Calls prog 284 #[.pointer (some ⟨db,0,none⟩),fv] w fun e w'=>e=.returned (.tuple #[])∧w'=w.setCell ⟨db,3+jI f,none⟩ (.int .i64 (wrap64 (cs[jI f]?.getD 0+1))):=by
 match cs,hc with
 |[k0,k1,k2,k3,k4],_=>
 have g0:=h.cn 0 k0 rfl;have g1:=h.cn 1 k1 rfl;have g2:=h.cn 2 k2 rfl;have g3:=h.cn 3 k3 rfl;have g4:=h.cn 4 k4 rfl;clear h;obtain⟨c0,f0⟩:=g0;obtain⟨c1,f1⟩:=g1;obtain⟨c2,f2⟩:=g2;obtain⟨c3,f3⟩:=g3;obtain⟨c4,f4⟩:=g4;cases f with
 |man pr m=>
  obtain⟨rv,xv,sv,rfl,_⟩:=hf;have t0:=IJ (.agg #[.int .i64 pr,.string m.p,rv,xv,sv]) w;go_enter func284,ntmps284;go_wp2;exact gO (v:=.tuple #[]) (by simp[results,results284,go_sem]) rfl ⟨rfl,rfl⟩
 |idx pr vs=>
  obtain⟨u,rfl,_⟩:=hf;have t0:=FV (.agg #[.int .i64 pr,u]) w;have t1:=IK (.agg #[.int .i64 pr,u]) w;go_enter func284,ntmps284;go_wp2;exact gO (v:=.tuple #[]) (by simp[results,results284,go_sem]) rfl ⟨rfl,rfl⟩
 |wants ms ps=>
  obtain⟨a,b,rfl,_⟩:=hf;have t0:=FW (.agg #[a,b]) w;have t1:=FZ (.agg #[a,b]) w;have t2:=IL (.agg #[a,b]) w;go_enter func284,ntmps284;go_wp2;exact gO (v:=.tuple #[]) (by simp[results,results284,go_sem]) rfl ⟨rfl,rfl⟩
 |list ms ps=>
  obtain⟨a,b,rfl,_⟩:=hf;have t0:=FX (.agg #[a,b]) w;have t1:=F0 (.agg #[a,b]) w;have t2:=F3 (.agg #[a,b]) w;have t3:=IP (.agg #[a,b]) w;go_enter func284,ntmps284;go_wp2;exact gO (v:=.tuple #[]) (by simp[results,results284,go_sem]) rfl ⟨rfl,rfl⟩
 |ord ms ps=>
  obtain⟨a,b,rfl,_⟩:=hf;have t0:=FY (.agg #[a,b]) w;have t1:=F2 (.agg #[a,b]) w;have t2:=F4 (.agg #[a,b]) w;have t3:=F5 (.agg #[a,b]) w;have t4:=IQ (.agg #[a,b]) w;go_enter func284,ntmps284;go_wp2;exact gO (v:=.tuple #[]) (by simp[results,results284,go_sem]) rfl ⟨rfl,rfl⟩
end Pn
namespace Pn
open Mf
variable{A A2:Nat→Prop}
theorem RdA.at{α:Type}{enc:α→List Value}{w W:World}{v:Value}{L:List α}{s:Nat}(h:RdA A enc w v L)(hl:∀x,(enc x).length=s)(hs:0<s)(hb:Below w.heap.size w W)(i:Nat)(hi:i<L.length):
  ∃b off c,v=.slice (some ⟨b,off,none⟩) L.length c∧∀j u,(enc L[i])[j]?=some u→W.cell? ⟨b,off+i*s+j,none⟩=some u:=by
 rcases h.below hb with⟨_,h⟩|⟨b,off,c,h,_,hc⟩
 ·rw[h] at hi;simp at hi
 ·refine⟨b,off,c,h,fun j u hj=>?_⟩
  have hj2:j<s:=by rw[←hl L[i]];exact(dw.1 hj).1
  rw[Nat.add_assoc];refine hc _ u ?_
  have hpos:i*s+j<L.length*s:=by
   have:(i+1)*s≤L.length*s:=d9 s hi;rw[fx] at this;omega
  haveI:Inhabited α:=⟨L[i]⟩
  rw[Ss.flat_get hl hs L (i*s+j) hpos];have e1:(i*s+j)/s=i:=by rw[Nat.mul_comm,Nat.mul_add_div hs,Nat.div_eq_of_lt hj2];omega
  have e2:(i*s+j)%s=j:=by rw[Nat.mul_comm,Nat.mul_add_mod];exact Nat.mod_eq_of_lt hj2
  rw[e1,e2,bD L i hi];exact hj
theorem EE:∀x:Pb,(aU x).length=3:=fun _=>rfl
theorem int_ne{a b:Nat}(h:a≠b):(((a:Nat):Int)==(b:Int))=false:=by
 rw[gJ];omega
theorem uM{α:Type}{L M:List α}(hl:L.length=M.length)(h:∀j (h1:j<L.length) (h2:j<M.length),L[j]=M[j]):L=M:=List.ext_getElem hl h
open Classical in
theorem oT(u v:Value)(L M:List Mo)(w:World)(hL:L.length≤16777216)(h1:RdA A Sm.mc w u L)(h2:RdA A2 Sm.mc w v M):
  Calls prog 390 #[u,v] w fun e w'=>e=.returned (.bool (decide (L=M)))∧Below w.heap.size w w':=by
 obtain⟨a1,c1,e1⟩:=h1.len;obtain⟨a2,c2,e2⟩:=h2.len;subst e1;subst e2;by_cases hlen:L.length=M.length
 ·have D1:Aside _:=h1
  have D2:Aside _:=h2;rw[←hlen];have LM:Hid (L.length=M.length):=hlen
  have HT:Hid (∀b:Bool,(b=true↔L=M)→decide (L=M)=b):=fun b hb=>by
   cases b
   ·exact bI (fun e=>by have:=hb.2 e;cases this)
   ·exact cY (hb.1 rfl)
  obtain⟨r,hr⟩:∃r,r=decide (L=M):=⟨_,rfl⟩;rw[←hr];have HRr:Hid (r=decide (L=M)):=hr;clear hr h1 h2 hlen
  have FG:Hid (∀wr,Below w.heap.size w wr→∀i,i<L.length→∃(x y:Mo)(b o:Nat)(b' o':Nat),L[i]?=some x∧M[i]?=some y∧a1=some ⟨b,o,none⟩∧a2=some ⟨b',o',none⟩∧wr.cell? ⟨b,o+i*2,none⟩=some (.string x.1)∧wr.cell? ⟨b,o+i*2+1,none⟩=some (.string x.2)∧wr.cell? ⟨b',o'+i*2,none⟩=some (.string y.1)∧wr.cell? ⟨b',o'+i*2+1,none⟩=some (.string y.2)):=fun wr hb i hi=>by
   obtain⟨b,o,c,eg,hx⟩:=RdA.at (A:=A) (L:=L) D1.out jD (by decide) hb i hi;injection eg with eg1 _ _;have hi2:i<M.length:=by have:=LM.out;omega
   obtain⟨b',o',c',eg',hy⟩:=RdA.at (A:=A2) (L:=M) D2.out jD (by decide) hb i hi2;injection eg' with Dj _ _;refine⟨L[i],M[i],b,o,b',o',bg hi,bg hi2,eg1,Dj,?_,?_,?_,?_⟩
   ·have:=hx 0 _ rfl;simpa using this
   ·have:=hx 1 _ rfl;simpa using this
   ·have:=hy 0 _ rfl;simpa using this
   ·have:=hy 1 _ rfl;simpa using this
  clear D1 D2;generalize hn:L.length=n at*;have qm:(((n:Nat):Int)==(n:Int))=true:=by simp
  go_enter func390,ntmps390;go_wp2;go_loopg [13] n (fun gg s wr=>∃i:Nat,i≤n∧n-i≤gg∧s=.int .i64 i∧Below w.heap.size w wr∧Hid (∀j x y,j<i→L[j]?=some x→M[j]?=some y→x=y))
  case atStart=>exact⟨0,by omega,by omega,rfl,ae _ _,fun j x y h=>absurd h (dG _)⟩
  case round=>
   obtain⟨i,hi,hg,rfl,hbw,HJ⟩:=hrel;by_cases hin:i<n
   ·obtain⟨x,y,b,o,b',o',hx,hy,rfl,rfl,x0,x1,y0,y1⟩:=FG.out wr hbw i hin
    have hil:((i:Nat):Int)<(n:Int):=by omega
    by_cases he:x=y
    ·subst he
     have HN:Hid (∀j x y,j<i+1→L[j]?=some x→M[j]?=some y→x=y):=fun j x' y' hj h3 h4=>by
      by_cases e:j=i
      ·subst e
       rw[hx] at h3;rw[hy] at h4;rw[←cJ h3,←cJ h4]
      ·exact HJ.out j x' y' (by omega) h3 h4
     clear hx hy;generalize x.1=k0 at*;have q0:(k0.toList==k0.toList)=true:=by simp
     generalize x.2=k1 at*;have q1:(k1.toList==k1.toList)=true:=by simp
     go_upto_region 6 with fail;go_quiet (fail);generalize hW:World.drewN _ _=W4;have hb4:Below w.heap.size w W4:=by rw[←hW];exact a7 hbw _
     clear hW;go_wp2;go_roundg (n-(i+1))
     case measure=>omega
     case rel=>exact⟨i+1,by omega,by omega,by go_num,hb4,HN⟩
    ·have hrf:r=false:=by
      rw[HRr.out];exact bI (fun e=>he (by subst e;rw[hx] at hy;exact cJ hy))
     have HNE:Hid (¬(x.1=y.1∧x.2=y.2)):=fun h=>he (fD h.1 h.2)
     clear hx hy he HRr HT;subst hrf;generalize x.1=k0 at*;generalize y.1=m0 at*;generalize x.2=k1 at*;generalize y.2=m1 at*;by_cases t0:k0=m0
     ·subst t0
      have q0:(k0.toList==k0.toList)=true:=by simp
      have d1:=Rn.dn (fun h:k1=m1=>HNE.out ⟨rfl,h⟩);clear HNE;go_upto_region 6 with fail;go_quiet (fail);generalize hW:World.drewN _ _=W4;have hb4:Below w.heap.size w W4:=by rw[←hW];exact a7 hbw _
      clear hW;go_wp2;go_ret;exact⟨rfl,hb4⟩
     ·have d0:=Rn.dn t0
      clear HNE t0;go_upto_region 6 with fail;go_quiet (fail);generalize hW:World.drewN _ _=W4;have hb4:Below w.heap.size w W4:=by rw[←hW];exact a7 hbw _
      clear hW;go_wp2;go_ret;exact⟨rfl,hb4⟩
   ·have hil:(((i:Nat):Int)<(n:Int))=False:=by simp;omega
    have hrt:r=true:=by
     rw[HRr.out];refine cY (uM (hn.trans LM.out) (fun j h3 h4=>HJ.out j _ _ (by omega) (bg h3) (bg h4)))
    clear HRr HT;subst hrt;go_wp2;go_ret;exact⟨rfl,hbw⟩
 ·have hd:decide (L=M)=false:=bI (fun e=>hlen (by rw[e]))
  rw[hd];have hne:(((L.length:Nat):Int)==(M.length:Int))=false:=int_ne hlen;clear hd h1 h2;generalize L.length=n at*;generalize M.length=m at*;go_enter func390,ntmps390;go_wp2;go_ret;exact⟨rfl,ae _ _⟩
open Classical in
theorem Bw(u v:Value)(L M:List Pb)(w:World)(hL:L.length≤16777216)(h1:RdA A aU w u L)(h2:RdA A2 aU w v M):
  Calls prog 392 #[u,v] w fun e w'=>e=.returned (.bool (decide (L=M)))∧Below w.heap.size w w':=by
 obtain⟨a1,c1,e1⟩:=h1.len;obtain⟨a2,c2,e2⟩:=h2.len;subst e1;subst e2;by_cases hlen:L.length=M.length
 ·have D1:Aside _:=h1
  have D2:Aside _:=h2;rw[←hlen];have LM:Hid (L.length=M.length):=hlen
  have HT:Hid (∀b:Bool,(b=true↔L=M)→decide (L=M)=b):=fun b hb=>by
   cases b
   ·exact bI (fun e=>by have:=hb.2 e;cases this)
   ·exact cY (hb.1 rfl)
  obtain⟨r,hr⟩:∃r,r=decide (L=M):=⟨_,rfl⟩;rw[←hr];have HRr:Hid (r=decide (L=M)):=hr;clear hr h1 h2 hlen
  have FG:Hid (∀wr,Below w.heap.size w wr→∀i,i<L.length→∃(x y:Pb)(b o:Nat)(b' o':Nat),L[i]?=some x∧M[i]?=some y∧a1=some ⟨b,o,none⟩∧a2=some ⟨b',o',none⟩∧wr.cell? ⟨b,o+i*3,none⟩=some (.int .i64 (x.1:Nat))∧wr.cell? ⟨b,o+i*3+1,none⟩=some (.string x.2.1)∧wr.cell? ⟨b,o+i*3+2,none⟩=some (.string x.2.2)∧wr.cell? ⟨b',o'+i*3,none⟩=some (.int .i64 (y.1:Nat))∧wr.cell? ⟨b',o'+i*3+1,none⟩=some (.string y.2.1)∧wr.cell? ⟨b',o'+i*3+2,none⟩=some (.string y.2.2)):=fun wr hb i hi=>by
   obtain⟨b,o,c,eg,hx⟩:=RdA.at (A:=A) (L:=L) D1.out EE (by decide) hb i hi;injection eg with eg1 _ _;have hi2:i<M.length:=by have:=LM.out;omega
   obtain⟨b',o',c',eg',hy⟩:=RdA.at (A:=A2) (L:=M) D2.out EE (by decide) hb i hi2;injection eg' with Dj _ _;refine⟨L[i],M[i],b,o,b',o',bg hi,bg hi2,eg1,Dj,?_,?_,?_,?_,?_,?_⟩
   ·have:=hx 0 _ rfl;simpa using this
   ·have:=hx 1 _ rfl;simpa using this
   ·have:=hx 2 _ rfl;simpa using this
   ·have:=hy 0 _ rfl;simpa using this
   ·have:=hy 1 _ rfl;simpa using this
   ·have:=hy 2 _ rfl;simpa using this
  clear D1 D2;generalize hn:L.length=n at*;have qm:(((n:Nat):Int)==(n:Int))=true:=by simp
  go_enter func392,ntmps392;go_wp2;go_loopg [13] n (fun gg s wr=>∃i:Nat,i≤n∧n-i≤gg∧s=.int .i64 i∧Below w.heap.size w wr∧Hid (∀j x y,j<i→L[j]?=some x→M[j]?=some y→x=y))
  case atStart=>exact⟨0,by omega,by omega,rfl,ae _ _,fun j x y h=>absurd h (dG _)⟩
  case round=>
   obtain⟨i,hi,hg,rfl,hbw,HJ⟩:=hrel;by_cases hin:i<n
   ·obtain⟨x,y,b,o,b',o',hx,hy,rfl,rfl,x0,x1,x2,y0,y1,y2⟩:=FG.out wr hbw i hin
    have hil:((i:Nat):Int)<(n:Int):=by omega
    by_cases he:x=y
    ·subst he
     have HN:Hid (∀j x y,j<i+1→L[j]?=some x→M[j]?=some y→x=y):=fun j x' y' hj h3 h4=>by
      by_cases e:j=i
      ·subst e
       rw[hx] at h3;rw[hy] at h4;rw[←cJ h3,←cJ h4]
      ·exact HJ.out j x' y' (by omega) h3 h4
     clear hx hy;generalize x.1=k0 at*;have q0:(((k0:Nat):Int)==(k0:Int))=true:=by simp
     generalize x.2.1=k1 at*;have q1:(k1.toList==k1.toList)=true:=by simp
     generalize x.2.2=k2 at*;have q2:(k2.toList==k2.toList)=true:=by simp
     go_upto_region 6 with fail;go_quiet (fail);generalize hW:World.drewN _ _=W4;have hb4:Below w.heap.size w W4:=by rw[←hW];exact a7 hbw _
     clear hW;go_wp2;go_roundg (n-(i+1))
     case measure=>omega
     case rel=>exact⟨i+1,by omega,by omega,by go_num,hb4,HN⟩
    ·have hrf:r=false:=by
      rw[HRr.out];exact bI (fun e=>he (by subst e;rw[hx] at hy;exact cJ hy))
     have HNE:Hid (¬(x.1=y.1∧x.2.1=y.2.1∧x.2.2=y.2.2)):=fun h=>he (fD h.1 (fD h.2.1 h.2.2))
     clear hx hy he HRr HT;subst hrf;generalize x.1=k0 at*;generalize y.1=m0 at*;generalize x.2.1=k1 at*;generalize y.2.1=m1 at*;generalize x.2.2=k2 at*;generalize y.2.2=m2 at*;by_cases t0:k0=m0
     ·subst t0
      have q0:(((k0:Nat):Int)==(k0:Int))=true:=by simp
      by_cases t1:k1=m1
      ·subst t1
       have q1:(k1.toList==k1.toList)=true:=by simp
       have d2:=Rn.dn (fun h:k2=m2=>HNE.out ⟨rfl,rfl,h⟩);clear HNE;go_upto_region 6 with fail;go_quiet (fail);generalize hW:World.drewN _ _=W4;have hb4:Below w.heap.size w W4:=by rw[←hW];exact a7 hbw _
       clear hW;go_wp2;go_ret;exact⟨rfl,hb4⟩
      ·have d1:=Rn.dn t1
       clear HNE t1;go_upto_region 6 with fail;go_quiet (fail);generalize hW:World.drewN _ _=W4;have hb4:Below w.heap.size w W4:=by rw[←hW];exact a7 hbw _
       clear hW;go_wp2;go_ret;exact⟨rfl,hb4⟩
     ·have d0:=int_ne t0
      clear HNE t0;go_upto_region 6 with fail;go_quiet (fail);generalize hW:World.drewN _ _=W4;have hb4:Below w.heap.size w W4:=by rw[←hW];exact a7 hbw _
      clear hW;go_wp2;go_ret;exact⟨rfl,hb4⟩
   ·have hil:(((i:Nat):Int)<(n:Int))=False:=by simp;omega
    have hrt:r=true:=by
     rw[HRr.out];refine cY (uM (hn.trans LM.out) (fun j h3 h4=>HJ.out j _ _ (by omega) (bg h3) (bg h4)))
    clear HRr HT;subst hrt;go_wp2;go_ret;exact⟨rfl,hbw⟩
 ·have hd:decide (L=M)=false:=bI (fun e=>hlen (by rw[e]))
  rw[hd];have hne:(((L.length:Nat):Int)==(M.length:Int))=false:=int_ne hlen;clear hd h1 h2;generalize L.length=n at*;generalize M.length=m at*;go_enter func392,ntmps392;go_wp2;go_ret;exact⟨rfl,ae _ _⟩
open Classical in
theorem F6(u v:Value)(L M:List So)(w:World)(hL:L.length≤16777216)(h1:RdA A Sw.mc w u L)(h2:RdA A2 Sw.mc w v M):
  Calls prog 394 #[u,v] w fun e w'=>e=.returned (.bool (decide (L=M)))∧Below w.heap.size w w':=by
 obtain⟨a1,c1,e1⟩:=h1.len;obtain⟨a2,c2,e2⟩:=h2.len;subst e1;subst e2;by_cases hlen:L.length=M.length
 ·have D1:Aside _:=h1
  have D2:Aside _:=h2;rw[←hlen];have LM:Hid (L.length=M.length):=hlen
  have HT:Hid (∀b:Bool,(b=true↔L=M)→decide (L=M)=b):=fun b hb=>by
   cases b
   ·exact bI (fun e=>by have:=hb.2 e;cases this)
   ·exact cY (hb.1 rfl)
  obtain⟨r,hr⟩:∃r,r=decide (L=M):=⟨_,rfl⟩;rw[←hr];have HRr:Hid (r=decide (L=M)):=hr;clear hr h1 h2 hlen
  have FG:Hid (∀wr,Below w.heap.size w wr→∀i,i<L.length→∃(x y:So)(b o:Nat)(b' o':Nat),L[i]?=some x∧M[i]?=some y∧a1=some ⟨b,o,none⟩∧a2=some ⟨b',o',none⟩∧wr.cell? ⟨b,o+i*3,none⟩=some (.string x.1)∧wr.cell? ⟨b,o+i*3+1,none⟩=some (.string x.2.1)∧wr.cell? ⟨b,o+i*3+2,none⟩=some (.string x.2.2)∧wr.cell? ⟨b',o'+i*3,none⟩=some (.string y.1)∧wr.cell? ⟨b',o'+i*3+1,none⟩=some (.string y.2.1)∧wr.cell? ⟨b',o'+i*3+2,none⟩=some (.string y.2.2)):=fun wr hb i hi=>by
   obtain⟨b,o,c,eg,hx⟩:=RdA.at (A:=A) (L:=L) D1.out rG (by decide) hb i hi;injection eg with eg1 _ _;have hi2:i<M.length:=by have:=LM.out;omega
   obtain⟨b',o',c',eg',hy⟩:=RdA.at (A:=A2) (L:=M) D2.out rG (by decide) hb i hi2;injection eg' with Dj _ _;refine⟨L[i],M[i],b,o,b',o',bg hi,bg hi2,eg1,Dj,?_,?_,?_,?_,?_,?_⟩
   ·have:=hx 0 _ rfl;simpa using this
   ·have:=hx 1 _ rfl;simpa using this
   ·have:=hx 2 _ rfl;simpa using this
   ·have:=hy 0 _ rfl;simpa using this
   ·have:=hy 1 _ rfl;simpa using this
   ·have:=hy 2 _ rfl;simpa using this
  clear D1 D2;generalize hn:L.length=n at*;have qm:(((n:Nat):Int)==(n:Int))=true:=by simp
  go_enter func394,ntmps394;go_wp2;go_loopg [13] n (fun gg s wr=>∃i:Nat,i≤n∧n-i≤gg∧s=.int .i64 i∧Below w.heap.size w wr∧Hid (∀j x y,j<i→L[j]?=some x→M[j]?=some y→x=y))
  case atStart=>exact⟨0,by omega,by omega,rfl,ae _ _,fun j x y h=>absurd h (dG _)⟩
  case round=>
   obtain⟨i,hi,hg,rfl,hbw,HJ⟩:=hrel;by_cases hin:i<n
   ·obtain⟨x,y,b,o,b',o',hx,hy,rfl,rfl,x0,x1,x2,y0,y1,y2⟩:=FG.out wr hbw i hin
    have hil:((i:Nat):Int)<(n:Int):=by omega
    by_cases he:x=y
    ·subst he
     have HN:Hid (∀j x y,j<i+1→L[j]?=some x→M[j]?=some y→x=y):=fun j x' y' hj h3 h4=>by
      by_cases e:j=i
      ·subst e
       rw[hx] at h3;rw[hy] at h4;rw[←cJ h3,←cJ h4]
      ·exact HJ.out j x' y' (by omega) h3 h4
     clear hx hy;generalize x.1=k0 at*;have q0:(k0.toList==k0.toList)=true:=by simp
     generalize x.2.1=k1 at*;have q1:(k1.toList==k1.toList)=true:=by simp
     generalize x.2.2=k2 at*;have q2:(k2.toList==k2.toList)=true:=by simp
     go_upto_region 6 with fail;go_quiet (fail);generalize hW:World.drewN _ _=W4;have hb4:Below w.heap.size w W4:=by rw[←hW];exact a7 hbw _
     clear hW;go_wp2;go_roundg (n-(i+1))
     case measure=>omega
     case rel=>exact⟨i+1,by omega,by omega,by go_num,hb4,HN⟩
    ·have hrf:r=false:=by
      rw[HRr.out];exact bI (fun e=>he (by subst e;rw[hx] at hy;exact cJ hy))
     have HNE:Hid (¬(x.1=y.1∧x.2.1=y.2.1∧x.2.2=y.2.2)):=fun h=>he (fD h.1 (fD h.2.1 h.2.2))
     clear hx hy he HRr HT;subst hrf;generalize x.1=k0 at*;generalize y.1=m0 at*;generalize x.2.1=k1 at*;generalize y.2.1=m1 at*;generalize x.2.2=k2 at*;generalize y.2.2=m2 at*;by_cases t0:k0=m0
     ·subst t0
      have q0:(k0.toList==k0.toList)=true:=by simp
      by_cases t1:k1=m1
      ·subst t1
       have q1:(k1.toList==k1.toList)=true:=by simp
       have d2:=Rn.dn (fun h:k2=m2=>HNE.out ⟨rfl,rfl,h⟩);clear HNE;go_upto_region 6 with fail;go_quiet (fail);generalize hW:World.drewN _ _=W4;have hb4:Below w.heap.size w W4:=by rw[←hW];exact a7 hbw _
       clear hW;go_wp2;go_ret;exact⟨rfl,hb4⟩
      ·have d1:=Rn.dn t1
       clear HNE t1;go_upto_region 6 with fail;go_quiet (fail);generalize hW:World.drewN _ _=W4;have hb4:Below w.heap.size w W4:=by rw[←hW];exact a7 hbw _
       clear hW;go_wp2;go_ret;exact⟨rfl,hb4⟩
     ·have d0:=Rn.dn t0
      clear HNE t0;go_upto_region 6 with fail;go_quiet (fail);generalize hW:World.drewN _ _=W4;have hb4:Below w.heap.size w W4:=by rw[←hW];exact a7 hbw _
      clear hW;go_wp2;go_ret;exact⟨rfl,hb4⟩
   ·have hil:(((i:Nat):Int)<(n:Int))=False:=by simp;omega
    have hrt:r=true:=by
     rw[HRr.out];refine cY (uM (hn.trans LM.out) (fun j h3 h4=>HJ.out j _ _ (by omega) (bg h3) (bg h4)))
    clear HRr HT;subst hrt;go_wp2;go_ret;exact⟨rfl,hbw⟩
 ·have hd:decide (L=M)=false:=bI (fun e=>hlen (by rw[e]))
  rw[hd];have hne:(((L.length:Nat):Int)==(M.length:Int))=false:=int_ne hlen;clear hd h1 h2;generalize L.length=n at*;generalize M.length=m at*;go_enter func394,ntmps394;go_wp2;go_ret;exact⟨rfl,ae _ _⟩
open Classical in
theorem yz(u v:Value)(L M:List ByteArray)(w:World)(hL:L.length≤16777216)(h1:RdA A gf w u L)(h2:RdA A2 gf w v M):
  Calls prog 116 #[u,v] w fun e w'=>e=.returned (.bool (decide (L=M)))∧Below w.heap.size w w':=by
 obtain⟨a1,c1,e1⟩:=h1.len;obtain⟨a2,c2,e2⟩:=h2.len;subst e1;subst e2;by_cases hlen:L.length=M.length
 ·have D1:Aside _:=h1
  have D2:Aside _:=h2;rw[←hlen];have LM:Hid (L.length=M.length):=hlen
  have HT:Hid (∀b:Bool,(b=true↔L=M)→decide (L=M)=b):=fun b hb=>by
   cases b
   ·exact bI (fun e=>by have:=hb.2 e;cases this)
   ·exact cY (hb.1 rfl)
  obtain⟨r,hr⟩:∃r,r=decide (L=M):=⟨_,rfl⟩;rw[←hr];have HRr:Hid (r=decide (L=M)):=hr;clear hr h1 h2 hlen
  have FG:Hid (∀wr,Below w.heap.size w wr→∀i,i<L.length→∃(x y:ByteArray)(b o:Nat)(b' o':Nat),L[i]?=some x∧M[i]?=some y∧a1=some ⟨b,o,none⟩∧a2=some ⟨b',o',none⟩∧wr.cell? ⟨b,o+i,none⟩=some (.string x)∧wr.cell? ⟨b',o'+i,none⟩=some (.string y)):=fun wr hb i hi=>by
   obtain⟨b,o,c,eg,hx⟩:=RdA.at (A:=A) (L:=L) D1.out Bv (by decide) hb i hi;injection eg with eg1 _ _;have hi2:i<M.length:=by have:=LM.out;omega
   obtain⟨b',o',c',eg',hy⟩:=RdA.at (A:=A2) (L:=M) D2.out Bv (by decide) hb i hi2;injection eg' with Dj _ _;refine⟨L[i],M[i],b,o,b',o',bg hi,bg hi2,eg1,Dj,?_,?_⟩
   ·have:=hx 0 _ rfl;simpa using this
   ·have:=hy 0 _ rfl;simpa using this
  clear D1 D2;generalize hn:L.length=n at*;have qm:(((n:Nat):Int)==(n:Int))=true:=by simp
  go_enter func116,ntmps116;go_wp2;go_loopg [13] n (fun gg s wr=>∃i:Nat,i≤n∧n-i≤gg∧s=.int .i64 i∧Below w.heap.size w wr∧Hid (∀j x y,j<i→L[j]?=some x→M[j]?=some y→x=y))
  case atStart=>exact⟨0,by omega,by omega,rfl,ae _ _,fun j x y h=>absurd h (dG _)⟩
  case round=>
   obtain⟨i,hi,hg,rfl,hbw,HJ⟩:=hrel;by_cases hin:i<n
   ·obtain⟨x,y,b,o,b',o',hx,hy,rfl,rfl,x0,y0⟩:=FG.out wr hbw i hin
    have hil:((i:Nat):Int)<(n:Int):=by omega
    by_cases he:x=y
    ·subst he
     have HN:Hid (∀j x y,j<i+1→L[j]?=some x→M[j]?=some y→x=y):=fun j x' y' hj h3 h4=>by
      by_cases e:j=i
      ·subst e
       rw[hx] at h3;rw[hy] at h4;rw[←cJ h3,←cJ h4]
      ·exact HJ.out j x' y' (by omega) h3 h4
     clear hx hy;have q0:(x.toList==x.toList)=true:=by simp
     go_upto_region 6 with fail;go_quiet (fail);generalize hW:World.drewN _ _=W4;have hb4:Below w.heap.size w W4:=by rw[←hW];exact a7 hbw _
     clear hW;go_wp2;go_roundg (n-(i+1))
     case measure=>omega
     case rel=>exact⟨i+1,by omega,by omega,by go_num,hb4,HN⟩
    ·have hrf:r=false:=by
      rw[HRr.out];exact bI (fun e=>he (by subst e;rw[hx] at hy;exact cJ hy))
     have HNE:Hid (¬(x=y)):=fun h=>he (h)
     clear hx hy he HRr HT;subst hrf;have d0:=Rn.dn (fun h:x=y=>HNE.out h);clear HNE;go_upto_region 6 with fail;go_quiet (fail);generalize hW:World.drewN _ _=W4;have hb4:Below w.heap.size w W4:=by rw[←hW];exact a7 hbw _
     clear hW;go_wp2;go_ret;exact⟨rfl,hb4⟩
   ·have hil:(((i:Nat):Int)<(n:Int))=False:=by simp;omega
    have hrt:r=true:=by
     rw[HRr.out];refine cY (uM (hn.trans LM.out) (fun j h3 h4=>HJ.out j _ _ (by omega) (bg h3) (bg h4)))
    clear HRr HT;subst hrt;go_wp2;go_ret;exact⟨rfl,hbw⟩
 ·have hd:decide (L=M)=false:=bI (fun e=>hlen (by rw[e]))
  rw[hd];have hne:(((L.length:Nat):Int)==(M.length:Int))=false:=int_ne hlen;clear hd h1 h2;generalize L.length=n at*;generalize M.length=m at*;go_enter func116,ntmps116;go_wp2;go_ret;exact⟨rfl,ae _ _⟩
end Pn
namespace Pn
open Mf
variable{A:Nat→Prop}
def Small:Fi→Prop
 | .man _ m=>m.R.length≤100000∧m.X.length≤100000∧m.S.length≤100000
 | .idx _ vs=>vs.length≤100000
 | .wants ms ps=>ms.length≤100000∧ps.length≤100000
 | .list ms ps=>ms.length≤100000∧ps.length≤1000000
 | .ord ns ps=>ns.length≤100000∧ps.length≤100000
theorem Lu(a b:ByteArray):(a.toList==b.toList)=true↔a=b:=by
 constructor
 ·intro h
  by_cases e:a=b
  ·exact e
  ·rw[Rn.dn e] at h;cases h
 ·intro h;rw[h];simp
theorem zG(a b:Nat):(((a:Nat):Int)==(b:Int))=true↔a=b:=by
 constructor
 ·intro h
  by_cases e:a=b
  ·exact e
  ·rw[int_ne e] at h;cases h
 ·intro h;rw[h];simp
open Classical in
theorem IV(pr pr':Nat)(p p':ByteArray)(Rv Rv':Value)(R R':List Mo)(Xv Xv':Value)(X X':List Mo)(Sv Sv':Value)(S S':List So)(w:World)(lR:R.length≤100000)(lX:X.length≤100000)(lS:S.length≤100000)(hR:RdA A Sm.mc w Rv R)(hX:RdA A Sm.mc w Xv X)(hS:RdA A Sw.mc w Sv S)(hR':RdA A Sm.mc w Rv' R')(hX':RdA A Sm.mc w Xv' X')(hS':RdA A Sw.mc w Sv' S'):
  Calls prog 393 #[.agg #[.int .i64 (pr:Nat),.string p,Rv,Xv,Sv],.iface 386 (.agg #[.int .i64 (pr':Nat),.string p',Rv',Xv',Sv'])] w fun e w'=>e=.returned (.bool (decide (pr=pr'∧p=p'∧R=R'∧X=X'∧S=S')))∧Below w.heap.size w w':=by
 have KR:Hid (∀W,Below w.heap.size w W→Calls prog 390 #[Rv,Rv'] W fun e w'=>e=.returned (.bool (decide (R=R')))∧Below W.heap.size W w'):=fun W hb=>oT Rv Rv' R R' W (by omega) (hR.below hb) (hR'.below hb)
 obtain⟨aR,cR,eR⟩:=hR.len;obtain⟨aR',cR',eR'⟩:=hR'.len;have KX:Hid (∀W,Below w.heap.size w W→Calls prog 390 #[Xv,Xv'] W fun e w'=>e=.returned (.bool (decide (X=X')))∧Below W.heap.size W w'):=fun W hb=>oT Xv Xv' X X' W (by omega) (hX.below hb) (hX'.below hb)
 obtain⟨aX,cX,eX⟩:=hX.len;obtain⟨aX',cX',eX'⟩:=hX'.len;have KS:Hid (∀W,Below w.heap.size w W→Calls prog 394 #[Sv,Sv'] W fun e w'=>e=.returned (.bool (decide (S=S')))∧Below W.heap.size W w'):=fun W hb=>F6 Sv Sv' S S' W (by omega) (hS.below hb) (hS'.below hb)
 obtain⟨aS,cS,eS⟩:=hS.len;obtain⟨aS',cS',eS'⟩:=hS'.len
 have HE:decide (pr=pr'∧p=p'∧R=R'∧X=X'∧S=S')=((((pr:Nat):Int)==(pr':Int))&&(p.toList==p'.toList)&&(decide (R=R'))&&(decide (X=X'))&&(decide (S=S'))):=by
  rw[fq];simp only[mZ,eI,Lu,zG,and_assoc]
 rw[HE];clear HE;clear hR hR';clear hX hX';clear hS hS';subst eR;subst eR';subst eX;subst eX';subst eS;subst eS';generalize hb0:(((pr:Nat):Int)==(pr':Int))=b0;generalize hb1:(p.toList==p'.toList)=b1;generalize decide (R=R')=b2 at*;generalize decide (X=X')=b3 at*;generalize decide (S=S')=b4 at*;generalize R.length=nR at*;generalize R'.length=nR' at*;generalize X.length=nX at*;generalize X'.length=nX' at*;generalize S.length=nS at*;generalize S'.length=nS' at*;have t0:=IJ (.agg #[.int .i64 (pr':Nat),.string p',.slice aR' nR' cR',.slice aX' nX' cX',.slice aS' nS' cS']) (w.alloc (.cells #[.int .i64 (pr:Nat),.string p,.slice aR nR cR,.slice aX nX cX,.slice aS nS cS] 386));have hb1:Below w.heap.size w (w.alloc (.cells #[.int .i64 (pr:Nat),.string p,.slice aR nR cR,.slice aX nX cX,.slice aS nS cS] 386)):=(ae _ _).alloc (ag _) _;have HB:Hid (Below w.heap.size w ((w.alloc (.cells #[.int .i64 (pr:Nat),.string p,.slice aR nR cR,.slice aX nX cX,.slice aS nS cS] 386)).alloc (.cells #[.int .i64 (pr':Nat),.string p',.slice aR' nR' cR',.slice aX' nX' cX',.slice aS' nS' cS'] 386))):=hb1.alloc hb1.size _
 have HC:Hid (∀W,Below ((w.alloc (.cells #[.int .i64 (pr:Nat),.string p,.slice aR nR cR,.slice aX nX cX,.slice aS nS cS] 386)).alloc (.cells #[.int .i64 (pr':Nat),.string p',.slice aR' nR' cR',.slice aX' nX' cX',.slice aS' nS' cS'] 386)).heap.size ((w.alloc (.cells #[.int .i64 (pr:Nat),.string p,.slice aR nR cR,.slice aX nX cX,.slice aS nS cS] 386)).alloc (.cells #[.int .i64 (pr':Nat),.string p',.slice aR' nR' cR',.slice aX' nX' cX',.slice aS' nS' cS'] 386)) W→W.cell? ⟨w.heap.size,0,none⟩=some (.int .i64 (pr:Nat))∧W.cell? ⟨w.heap.size,1,none⟩=some (.string p)∧W.cell? ⟨w.heap.size,2,none⟩=some (.slice aR nR cR)∧W.cell? ⟨w.heap.size,3,none⟩=some (.slice aX nX cX)∧W.cell? ⟨w.heap.size,4,none⟩=some (.slice aS nS cS)∧W.cell? ⟨w.heap.size+1,0,none⟩=some (.int .i64 (pr':Nat))∧W.cell? ⟨w.heap.size+1,1,none⟩=some (.string p')∧W.cell? ⟨w.heap.size+1,2,none⟩=some (.slice aR' nR' cR')∧W.cell? ⟨w.heap.size+1,3,none⟩=some (.slice aX' nX' cX')∧W.cell? ⟨w.heap.size+1,4,none⟩=some (.slice aS' nS' cS')):=fun W hb=>by
  refine⟨?_,?_,?_,?_,?_,?_,?_,?_,?_,?_⟩<;>(rw[hb.cell (by simp<;>omega)];simp[go_sem])
 clear hb1;go_enter func393,ntmps393;go_upto_region 4 with fail;clear t0;generalize hW2:((w.alloc (.cells #[.int .i64 (pr:Nat),.string p,.slice aR nR cR,.slice aX nX cX,.slice aS nS cS] 386)).alloc (.cells #[.int .i64 (pr':Nat),.string p',.slice aR' nR' cR',.slice aX' nX' cX',.slice aS' nS' cS'] 386))=W2 at*;generalize hbx:w.heap.size=bx at*;clear hW2;obtain⟨x0,x1,x2,x3,x4,y0,y1,y2,y3,y4⟩:=HC.out W2 (ae _ _);have HBW:Hid (Below bx w W2):=HB;clear HB;cases b0
 ·go_wp2
  go_ret;exact⟨rfl,by have h:=HBW.out;first|exact h|(rw[←hbx] at h;exact h)⟩
 ·cases b1
  ·go_wp2
   go_ret;exact⟨rfl,by have h:=HBW.out;first|exact h|(rw[←hbx] at h;exact h)⟩
  ·go_wp2_with (go_at_call 390;fail)
   go_at_call 390;refine(KR.out _ (by have h:=HBW.out;exact h)).mono ?_;rintro e v2 ⟨rfl,hv2⟩;have Lv:Hid (Below bx w v2):=(HBW.out).trans (hv2.mono (by have h:=(HBW.out).size;omega));have N4:Hid (Below W2.heap.size W2 v2):=hv2;obtain⟨RZ,R1,R2,R3,R4,R5,R6,R7,R8,R9⟩:=HC.out v2 N4.out;cases b2
   ·go_wp2
    go_ret;exact⟨rfl,by have h:=Lv.out;first|exact h|(rw[←hbx] at h;exact h)⟩
   ·go_wp2_with (go_at_call 390;fail)
    go_at_call 390;refine(KX.out _ (by have h:=Lv.out;exact h)).mono ?_;rintro e v3 ⟨rfl,hv3⟩;have LA:Hid (Below bx w v3):=(Lv.out).trans (hv3.mono (by have h:=(Lv.out).size;omega));have QU:Hid (Below W2.heap.size W2 v3):=N4.out.trans (hv3.mono N4.out.size);obtain⟨Sb,Sc,Sd,Se,Sf,Sg,Si,Sj,Sk,Sl⟩:=HC.out v3 QU.out;cases b3
    ·go_wp2
     go_ret;exact⟨rfl,by have h:=LA.out;first|exact h|(rw[←hbx] at h;exact h)⟩
    ·go_wp2_with (go_at_call 394;fail)
     go_at_call 394;refine(KS.out _ (by have h:=LA.out;exact h)).mono ?_;rintro e v4 ⟨rfl,hv4⟩;have QV:Hid (Below bx w v4):=(LA.out).trans (hv4.mono (by have h:=(LA.out).size;omega));go_wp2;go_ret;exact⟨by simp,by have h:=QV.out;first|exact h|(rw[←hbx] at h;exact h)⟩
theorem IW(pr:Nat)(p:ByteArray)(aR:Option Addr)(nR cR:Nat)(aX:Option Addr)(nX cX:Nat)(aS:Option Addr)(nS cS:Nat)(w:World):Calls prog 393 #[.agg #[.int .i64 (pr:Nat),.string p,.slice aR nR cR,.slice aX nX cX,.slice aS nS cS],.nilIface] w fun e w'=>e=.returned (.bool false)∧Below w.heap.size w w':=by
 have t0:=Ll (w.alloc (.cells #[.int .i64 (pr:Nat),.string p,.slice aR nR cR,.slice aX nX cX,.slice aS nS cS] 386));have HB:Hid (Below w.heap.size w (w.alloc (.cells #[.int .i64 (pr:Nat),.string p,.slice aR nR cR,.slice aX nX cX,.slice aS nS cS] 386))):=(ae _ _).alloc (ag _) _;go_enter func393,ntmps393;go_wp2;go_ret;exact⟨rfl,HB.out⟩
open Classical in
theorem IX(pr pr':Nat)(vsv LB:Value)(vs vs':List ByteArray)(w:World)(lvs:vs.length≤100000)(hvs:RdA A gf w vsv vs)(N5:RdA A gf w LB vs'):
  Calls prog 395 #[.agg #[.int .i64 (pr:Nat),vsv],.iface 389 (.agg #[.int .i64 (pr':Nat),LB])] w fun e w'=>e=.returned (.bool (decide (pr=pr'∧vs=vs')))∧Below w.heap.size w w':=by
 have Kvs:Hid (∀W,Below w.heap.size w W→Calls prog 116 #[vsv,LB] W fun e w'=>e=.returned (.bool (decide (vs=vs')))∧Below W.heap.size W w'):=fun W hb=>yz vsv LB vs vs' W (by omega) (hvs.below hb) (N5.below hb)
 obtain⟨avs,cvs,evs⟩:=hvs.len;obtain⟨F7,F8,QW⟩:=N5.len
 have HE:decide (pr=pr'∧vs=vs')=((((pr:Nat):Int)==(pr':Int))&&(decide (vs=vs'))):=by
  rw[fq];simp only[mZ,eI,zG]
 rw[HE];clear HE;clear hvs N5;subst evs;subst QW;generalize hb0:(((pr:Nat):Int)==(pr':Int))=b0;generalize decide (vs=vs')=b1 at*;generalize vs.length=nvs at*;generalize vs'.length=F9 at*;have t0:=IK (.agg #[.int .i64 (pr':Nat),.slice F7 F9 F8]) (w.alloc (.cells #[.int .i64 (pr:Nat),.slice avs nvs cvs] 389));have hb1:Below w.heap.size w (w.alloc (.cells #[.int .i64 (pr:Nat),.slice avs nvs cvs] 389)):=(ae _ _).alloc (ag _) _;have HB:Hid (Below w.heap.size w ((w.alloc (.cells #[.int .i64 (pr:Nat),.slice avs nvs cvs] 389)).alloc (.cells #[.int .i64 (pr':Nat),.slice F7 F9 F8] 389))):=hb1.alloc hb1.size _
 have HC:Hid (∀W,Below ((w.alloc (.cells #[.int .i64 (pr:Nat),.slice avs nvs cvs] 389)).alloc (.cells #[.int .i64 (pr':Nat),.slice F7 F9 F8] 389)).heap.size ((w.alloc (.cells #[.int .i64 (pr:Nat),.slice avs nvs cvs] 389)).alloc (.cells #[.int .i64 (pr':Nat),.slice F7 F9 F8] 389)) W→W.cell? ⟨w.heap.size,0,none⟩=some (.int .i64 (pr:Nat))∧W.cell? ⟨w.heap.size,1,none⟩=some (.slice avs nvs cvs)∧W.cell? ⟨w.heap.size+1,0,none⟩=some (.int .i64 (pr':Nat))∧W.cell? ⟨w.heap.size+1,1,none⟩=some (.slice F7 F9 F8)):=fun W hb=>by
  refine⟨?_,?_,?_,?_⟩<;>(rw[hb.cell (by simp<;>omega)];simp[go_sem])
 clear hb1;go_enter func395,ntmps395;go_upto_region 4 with fail;clear t0;generalize hW2:((w.alloc (.cells #[.int .i64 (pr:Nat),.slice avs nvs cvs] 389)).alloc (.cells #[.int .i64 (pr':Nat),.slice F7 F9 F8] 389))=W2 at*;generalize hbx:w.heap.size=bx at*;clear hW2;obtain⟨x0,x1,y0,y1⟩:=HC.out W2 (ae _ _);have HBW:Hid (Below bx w W2):=HB;clear HB;cases b0
 ·go_wp2
  go_ret;exact⟨rfl,by have h:=HBW.out;first|exact h|(rw[←hbx] at h;exact h)⟩
 ·go_wp2_with (go_at_call 116;fail)
  go_at_call 116;refine(Kvs.out _ (by have h:=HBW.out;exact h)).mono ?_;rintro e v1 ⟨rfl,hv1⟩;have IY:Hid (Below bx w v1):=(HBW.out).trans (hv1.mono (by have h:=(HBW.out).size;omega));go_wp2;go_ret;exact⟨by simp,by have h:=IY.out;first|exact h|(rw[←hbx] at h;exact h)⟩
theorem IZ(pr:Nat)(avs:Option Addr)(nvs cvs:Nat)(w:World):Calls prog 395 #[.agg #[.int .i64 (pr:Nat),.slice avs nvs cvs],.nilIface] w fun e w'=>e=.returned (.bool false)∧Below w.heap.size w w':=by
 have t0:=Lp (w.alloc (.cells #[.int .i64 (pr:Nat),.slice avs nvs cvs] 389));have HB:Hid (Below w.heap.size w (w.alloc (.cells #[.int .i64 (pr:Nat),.slice avs nvs cvs] 389))):=(ae _ _).alloc (ag _) _;go_enter func395,ntmps395;go_wp2;go_ret;exact⟨rfl,HB.out⟩
open Classical in
theorem Dk(msv zH:Value)(ms ms':List Mo)(psv uH:Value)(ps ps':List Pb)(w:World)(lms:ms.length≤100000)(lps:ps.length≤100000)(hms:RdA A Sm.mc w msv ms)(hps:RdA A aU w psv ps)(Dl:RdA A Sm.mc w zH ms')(Dm:RdA A aU w uH ps'):
  Calls prog 396 #[.agg #[msv,psv],.iface 391 (.agg #[zH,uH])] w fun e w'=>e=.returned (.bool (decide (ms=ms'∧ps=ps')))∧Below w.heap.size w w':=by
 have Kms:Hid (∀W,Below w.heap.size w W→Calls prog 390 #[msv,zH] W fun e w'=>e=.returned (.bool (decide (ms=ms')))∧Below W.heap.size W w'):=fun W hb=>oT msv zH ms ms' W (by omega) (hms.below hb) (Dl.below hb)
 obtain⟨ams,cms,ems⟩:=hms.len;obtain⟨sX,sY,N6⟩:=Dl.len;have Kps:Hid (∀W,Below w.heap.size w W→Calls prog 392 #[psv,uH] W fun e w'=>e=.returned (.bool (decide (ps=ps')))∧Below W.heap.size W w'):=fun W hb=>Bw psv uH ps ps' W (by omega) (hps.below hb) (Dm.below hb)
 obtain⟨aps,cps,eps⟩:=hps.len;obtain⟨kY,kZ,N7⟩:=Dm.len
 have HE:decide (ms=ms'∧ps=ps')=((decide (ms=ms'))&&(decide (ps=ps'))):=by
  rw[fq];simp only[mZ,eI]
 rw[HE];clear HE;clear hms Dl;clear hps Dm;subst ems;subst N6;subst eps;subst N7;generalize decide (ms=ms')=b0 at*;generalize decide (ps=ps')=b1 at*;generalize ms.length=nms at*;generalize ms'.length=sZ at*;generalize ps.length=nps at*;generalize ps'.length=k7 at*;have t0:=IL (.agg #[.slice sX sZ sY,.slice kY k7 kZ]) (w.alloc (.cells #[.slice ams nms cms,.slice aps nps cps] 391));have hb1:Below w.heap.size w (w.alloc (.cells #[.slice ams nms cms,.slice aps nps cps] 391)):=(ae _ _).alloc (ag _) _;have HB:Hid (Below w.heap.size w ((w.alloc (.cells #[.slice ams nms cms,.slice aps nps cps] 391)).alloc (.cells #[.slice sX sZ sY,.slice kY k7 kZ] 391))):=hb1.alloc hb1.size _
 have HC:Hid (∀W,Below ((w.alloc (.cells #[.slice ams nms cms,.slice aps nps cps] 391)).alloc (.cells #[.slice sX sZ sY,.slice kY k7 kZ] 391)).heap.size ((w.alloc (.cells #[.slice ams nms cms,.slice aps nps cps] 391)).alloc (.cells #[.slice sX sZ sY,.slice kY k7 kZ] 391)) W→W.cell? ⟨w.heap.size,0,none⟩=some (.slice ams nms cms)∧W.cell? ⟨w.heap.size,1,none⟩=some (.slice aps nps cps)∧W.cell? ⟨w.heap.size+1,0,none⟩=some (.slice sX sZ sY)∧W.cell? ⟨w.heap.size+1,1,none⟩=some (.slice kY k7 kZ)):=fun W hb=>by
  refine⟨?_,?_,?_,?_⟩<;>(rw[hb.cell (by simp<;>omega)];simp[go_sem])
 clear hb1;go_enter func396,ntmps396;go_upto_region 4 with fail;clear t0;generalize hW2:((w.alloc (.cells #[.slice ams nms cms,.slice aps nps cps] 391)).alloc (.cells #[.slice sX sZ sY,.slice kY k7 kZ] 391))=W2 at*;generalize hbx:w.heap.size=bx at*;clear hW2;obtain⟨x0,x1,y0,y1⟩:=HC.out W2 (ae _ _);have HBW:Hid (Below bx w W2):=HB;clear HB
 go_wp2_with (go_at_call 390;fail)
 go_at_call 390;refine(Kms.out _ (by have h:=HBW.out;exact h)).mono ?_;rintro e v0 ⟨rfl,hv0⟩;have wq:Hid (Below bx w v0):=(HBW.out).trans (hv0.mono (by have h:=(HBW.out).size;omega));have N8:Hid (Below W2.heap.size W2 v0):=hv0;obtain⟨QY,QZ,Q0,Q5⟩:=HC.out v0 N8.out;cases b0
 ·go_wp2
  go_ret;exact⟨rfl,by have h:=wq.out;first|exact h|(rw[←hbx] at h;exact h)⟩
 ·go_wp2_with (go_at_call 392;fail)
  go_at_call 392;refine(Kps.out _ (by have h:=wq.out;exact h)).mono ?_;rintro e v1 ⟨rfl,hv1⟩;have IY:Hid (Below bx w v1):=(wq.out).trans (hv1.mono (by have h:=(wq.out).size;omega));go_wp2;go_ret;exact⟨by simp,by have h:=IY.out;first|exact h|(rw[←hbx] at h;exact h)⟩
theorem Dn(ams:Option Addr)(nms cms:Nat)(aps:Option Addr)(nps cps:Nat)(w:World):Calls prog 396 #[.agg #[.slice ams nms cms,.slice aps nps cps],.nilIface] w fun e w'=>e=.returned (.bool false)∧Below w.heap.size w w':=by
 have t0:=Lq (w.alloc (.cells #[.slice ams nms cms,.slice aps nps cps] 391));have HB:Hid (Below w.heap.size w (w.alloc (.cells #[.slice ams nms cms,.slice aps nps cps] 391))):=(ae _ _).alloc (ag _) _;go_enter func396,ntmps396;go_wp2;go_ret;exact⟨rfl,HB.out⟩
open Classical in
theorem Ga(msv zH:Value)(ms ms':List Mo)(psv uH:Value)(w:World)(lms:ms.length≤100000)(hms:RdA A Sm.mc w msv ms)(Dl:RdA A Sm.mc w zH ms')(sps:∃a n c,psv=.slice a n c)(Q6:∃a n c,uH=.slice a n c):
  Calls prog 389 #[.agg #[msv,psv],.iface 176 (.agg #[zH,uH])] w fun e w'=>e=.returned (.bool (decide (ms=ms')))∧Below w.heap.size w w':=by
 have Kms:Hid (∀W,Below w.heap.size w W→Calls prog 390 #[msv,zH] W fun e w'=>e=.returned (.bool (decide (ms=ms')))∧Below W.heap.size W w'):=fun W hb=>oT msv zH ms ms' W (by omega) (hms.below hb) (Dl.below hb)
 obtain⟨ams,cms,ems⟩:=hms.len;obtain⟨sX,sY,N6⟩:=Dl.len;obtain⟨aps,nps,cps,rfl⟩:=sps;obtain⟨kY,k7,kZ,rfl⟩:=Q6;clear hms Dl;subst ems;subst N6;generalize decide (ms=ms')=b0 at*;generalize ms.length=nms at*;generalize ms'.length=sZ at*;have t0:=IP (.agg #[.slice sX sZ sY,.slice kY k7 kZ]) (w.alloc (.cells #[.slice ams nms cms,.slice aps nps cps] 176));have hb1:Below w.heap.size w (w.alloc (.cells #[.slice ams nms cms,.slice aps nps cps] 176)):=(ae _ _).alloc (ag _) _;have HB:Hid (Below w.heap.size w ((w.alloc (.cells #[.slice ams nms cms,.slice aps nps cps] 176)).alloc (.cells #[.slice sX sZ sY,.slice kY k7 kZ] 176))):=hb1.alloc hb1.size _
 have HC:Hid (∀W,Below ((w.alloc (.cells #[.slice ams nms cms,.slice aps nps cps] 176)).alloc (.cells #[.slice sX sZ sY,.slice kY k7 kZ] 176)).heap.size ((w.alloc (.cells #[.slice ams nms cms,.slice aps nps cps] 176)).alloc (.cells #[.slice sX sZ sY,.slice kY k7 kZ] 176)) W→W.cell? ⟨w.heap.size,0,none⟩=some (.slice ams nms cms)∧W.cell? ⟨w.heap.size,1,none⟩=some (.slice aps nps cps)∧W.cell? ⟨w.heap.size+1,0,none⟩=some (.slice sX sZ sY)∧W.cell? ⟨w.heap.size+1,1,none⟩=some (.slice kY k7 kZ)):=fun W hb=>by
  refine⟨?_,?_,?_,?_⟩<;>(rw[hb.cell (by simp<;>omega)];simp[go_sem])
 clear hb1;go_enter func389,ntmps389;go_upto_region 4 with fail;clear t0;generalize hW2:((w.alloc (.cells #[.slice ams nms cms,.slice aps nps cps] 176)).alloc (.cells #[.slice sX sZ sY,.slice kY k7 kZ] 176))=W2 at*;generalize hbx:w.heap.size=bx at*;clear hW2;obtain⟨x0,x1,y0,y1⟩:=HC.out W2 (ae _ _);have HBW:Hid (Below bx w W2):=HB;clear HB
 go_wp2_with (go_at_call 390;fail)
 go_at_call 390;refine(Kms.out _ (by have h:=HBW.out;exact h)).mono ?_;rintro e v0 ⟨rfl,hv0⟩;have wq:Hid (Below bx w v0):=(HBW.out).trans (hv0.mono (by have h:=(HBW.out).size;omega));go_wp2;go_ret;exact⟨by simp,by have h:=wq.out;first|exact h|(rw[←hbx] at h;exact h)⟩
theorem Gb(ams:Option Addr)(nms cms:Nat)(aps:Option Addr)(nps cps:Nat)(w:World):Calls prog 389 #[.agg #[.slice ams nms cms,.slice aps nps cps],.nilIface] w fun e w'=>e=.returned (.bool false)∧Below w.heap.size w w':=by
 have t0:=Ls (w.alloc (.cells #[.slice ams nms cms,.slice aps nps cps] 176));have HB:Hid (Below w.heap.size w (w.alloc (.cells #[.slice ams nms cms,.slice aps nps cps] 176))):=(ae _ _).alloc (ag _) _;go_enter func389,ntmps389;go_wp2;go_ret;exact⟨rfl,HB.out⟩
open Classical in
theorem I4(nsv LC:Value)(ns ns':List ByteArray)(psv uH:Value)(ps ps':List Pb)(w:World)(lns:ns.length≤100000)(lps:ps.length≤100000)(hns:RdA A gf w nsv ns)(hps:RdA A aU w psv ps)(EZ:RdA A gf w LC ns')(Dm:RdA A aU w uH ps'):
  Calls prog 391 #[.agg #[nsv,psv],.iface 179 (.agg #[LC,uH])] w fun e w'=>e=.returned (.bool (decide (ns=ns'∧ps=ps')))∧Below w.heap.size w w':=by
 have Kns:Hid (∀W,Below w.heap.size w W→Calls prog 116 #[nsv,LC] W fun e w'=>e=.returned (.bool (decide (ns=ns')))∧Below W.heap.size W w'):=fun W hb=>yz nsv LC ns ns' W (by omega) (hns.below hb) (EZ.below hb)
 obtain⟨ans,cns,ens⟩:=hns.len;obtain⟨Gc,Gd,Q7⟩:=EZ.len;have Kps:Hid (∀W,Below w.heap.size w W→Calls prog 392 #[psv,uH] W fun e w'=>e=.returned (.bool (decide (ps=ps')))∧Below W.heap.size W w'):=fun W hb=>Bw psv uH ps ps' W (by omega) (hps.below hb) (Dm.below hb)
 obtain⟨aps,cps,eps⟩:=hps.len;obtain⟨kY,kZ,N7⟩:=Dm.len
 have HE:decide (ns=ns'∧ps=ps')=((decide (ns=ns'))&&(decide (ps=ps'))):=by
  rw[fq];simp only[mZ,eI]
 rw[HE];clear HE;clear hns EZ;clear hps Dm;subst ens;subst Q7;subst eps;subst N7;generalize decide (ns=ns')=b0 at*;generalize decide (ps=ps')=b1 at*;generalize ns.length=nns at*;generalize ns'.length=Ge at*;generalize ps.length=nps at*;generalize ps'.length=k7 at*;have t0:=IQ (.agg #[.slice Gc Ge Gd,.slice kY k7 kZ]) (w.alloc (.cells #[.slice ans nns cns,.slice aps nps cps] 179));have hb1:Below w.heap.size w (w.alloc (.cells #[.slice ans nns cns,.slice aps nps cps] 179)):=(ae _ _).alloc (ag _) _;have HB:Hid (Below w.heap.size w ((w.alloc (.cells #[.slice ans nns cns,.slice aps nps cps] 179)).alloc (.cells #[.slice Gc Ge Gd,.slice kY k7 kZ] 179))):=hb1.alloc hb1.size _
 have HC:Hid (∀W,Below ((w.alloc (.cells #[.slice ans nns cns,.slice aps nps cps] 179)).alloc (.cells #[.slice Gc Ge Gd,.slice kY k7 kZ] 179)).heap.size ((w.alloc (.cells #[.slice ans nns cns,.slice aps nps cps] 179)).alloc (.cells #[.slice Gc Ge Gd,.slice kY k7 kZ] 179)) W→W.cell? ⟨w.heap.size,0,none⟩=some (.slice ans nns cns)∧W.cell? ⟨w.heap.size,1,none⟩=some (.slice aps nps cps)∧W.cell? ⟨w.heap.size+1,0,none⟩=some (.slice Gc Ge Gd)∧W.cell? ⟨w.heap.size+1,1,none⟩=some (.slice kY k7 kZ)):=fun W hb=>by
  refine⟨?_,?_,?_,?_⟩<;>(rw[hb.cell (by simp<;>omega)];simp[go_sem])
 clear hb1;go_enter func391,ntmps391;go_upto_region 4 with fail;clear t0;generalize hW2:((w.alloc (.cells #[.slice ans nns cns,.slice aps nps cps] 179)).alloc (.cells #[.slice Gc Ge Gd,.slice kY k7 kZ] 179))=W2 at*;generalize hbx:w.heap.size=bx at*;clear hW2;obtain⟨x0,x1,y0,y1⟩:=HC.out W2 (ae _ _);have HBW:Hid (Below bx w W2):=HB;clear HB
 go_wp2_with (go_at_call 116;fail)
 go_at_call 116;refine(Kns.out _ (by have h:=HBW.out;exact h)).mono ?_;rintro e v0 ⟨rfl,hv0⟩;have wq:Hid (Below bx w v0):=(HBW.out).trans (hv0.mono (by have h:=(HBW.out).size;omega));have N8:Hid (Below W2.heap.size W2 v0):=hv0;obtain⟨QY,QZ,Q0,Q5⟩:=HC.out v0 N8.out;cases b0
 ·go_wp2
  go_ret;exact⟨rfl,by have h:=wq.out;first|exact h|(rw[←hbx] at h;exact h)⟩
 ·go_wp2_with (go_at_call 392;fail)
  go_at_call 392;refine(Kps.out _ (by have h:=wq.out;exact h)).mono ?_;rintro e v1 ⟨rfl,hv1⟩;have IY:Hid (Below bx w v1):=(wq.out).trans (hv1.mono (by have h:=(wq.out).size;omega));go_wp2;go_ret;exact⟨by simp,by have h:=IY.out;first|exact h|(rw[←hbx] at h;exact h)⟩
theorem I5(ans:Option Addr)(nns cns:Nat)(aps:Option Addr)(nps cps:Nat)(w:World):Calls prog 391 #[.agg #[.slice ans nns cns,.slice aps nps cps],.nilIface] w fun e w'=>e=.returned (.bool false)∧Below w.heap.size w w':=by
 have t0:=Lt (w.alloc (.cells #[.slice ans nns cns,.slice aps nps cps] 179));have HB:Hid (Below w.heap.size w (w.alloc (.cells #[.slice ans nns cns,.slice aps nps cps] 179))):=(ae _ _).alloc (ag _) _;go_enter func391,ntmps391;go_wp2;go_ret;exact⟨rfl,HB.out⟩
