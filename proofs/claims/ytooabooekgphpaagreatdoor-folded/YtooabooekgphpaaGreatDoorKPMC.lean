import Derived.Test.YtooabooekgphpaaGreatDoorKPMA
set_option linter.all false
open Go.Proofs.Tryz
set_option maxRecDepth 100000
set_option maxHeartbeats 1000000
namespace Go.Proofs.YtooabooekgphpaaGreatDoor
open Go.RowKit
namespace Pn
theorem KE(v:zV)(W:zW):(Instr.typeAssert (.iface 208 v) 107 208 true).run prog W=.ok (.tuple #[v,.bool true]) W:=by kernel_rfl
theorem KJ(v:zV)(W:zW):(Instr.typeAssert (.iface 211 v) 107 211 true).run prog W=.ok (.tuple #[v,.bool true]) W:=by kernel_rfl
theorem KL(v:zV)(W:zW):(Instr.typeAssert (.iface 213 v) 107 213 true).run prog W=.ok (.tuple #[v,.bool true]) W:=by kernel_rfl
theorem KN(v:zV)(W:zW):(Instr.typeAssert (.iface 89 v) 107 89 true).run prog W=.ok (.tuple #[v,.bool true]) W:=by kernel_rfl
theorem KO(v:zV)(W:zW):(Instr.typeAssert (.iface 92 v) 107 92 true).run prog W=.ok (.tuple #[v,.bool true]) W:=by kernel_rfl
theorem Q7(v:zV)(W:zW):(Instr.typeAssert (.iface 187 v) 185 187 true).run prog W=.ok (.tuple #[v,.bool true]) W:=by kernel_rfl
theorem Q8(v:zV)(W:zW):(Instr.typeAssert (.iface 82 v) 185 82 true).run prog W=.ok (.tuple #[v,.bool true]) W:=by kernel_rfl
theorem P6(v:zV)(W:zW):(Instr.typeAssert (.iface 82 v) 185 187 true).run prog W=.ok (.tuple #[.agg #[zI 0,zE,zE,zE,.bool false],.bool false]) W:=by kernel_rfl
theorem Ii(v:zV)(W:zW):(Instr.typeAssert (.iface 211 v) 107 208 true).run prog W=.ok (.tuple #[.agg #[zI 0,zE,zN,zN,zN],.bool false]) W:=by kernel_rfl
theorem Ij(v:zV)(W:zW):(Instr.typeAssert (.iface 213 v) 107 208 true).run prog W=.ok (.tuple #[.agg #[zI 0,zE,zN,zN,zN],.bool false]) W:=by kernel_rfl
theorem Ik(v:zV)(W:zW):(Instr.typeAssert (.iface 89 v) 107 208 true).run prog W=.ok (.tuple #[.agg #[zI 0,zE,zN,zN,zN],.bool false]) W:=by kernel_rfl
theorem Il(v:zV)(W:zW):(Instr.typeAssert (.iface 92 v) 107 208 true).run prog W=.ok (.tuple #[.agg #[zI 0,zE,zN,zN,zN],.bool false]) W:=by kernel_rfl
theorem Im(v:zV)(W:zW):(Instr.typeAssert (.iface 213 v) 107 211 true).run prog W=.ok (.tuple #[.agg #[zI 0,zN],.bool false]) W:=by kernel_rfl
theorem Io(v:zV)(W:zW):(Instr.typeAssert (.iface 89 v) 107 211 true).run prog W=.ok (.tuple #[.agg #[zI 0,zN],.bool false]) W:=by kernel_rfl
theorem Ip(v:zV)(W:zW):(Instr.typeAssert (.iface 92 v) 107 211 true).run prog W=.ok (.tuple #[.agg #[zI 0,zN],.bool false]) W:=by kernel_rfl
theorem Iq(v:zV)(W:zW):(Instr.typeAssert (.iface 89 v) 107 213 true).run prog W=.ok (.tuple #[.agg #[zN,zN],.bool false]) W:=by kernel_rfl
theorem Ir(v:zV)(W:zW):(Instr.typeAssert (.iface 92 v) 107 213 true).run prog W=.ok (.tuple #[.agg #[zN,zN],.bool false]) W:=by kernel_rfl
theorem Iu(v:zV)(W:zW):(Instr.typeAssert (.iface 92 v) 107 89 true).run prog W=.ok (.tuple #[.agg #[zN,zN],.bool false]) W:=by kernel_rfl
theorem Ny(W:zW):(Instr.typeAssert .nilIface 107 208 true).run prog W=.ok (.tuple #[.agg #[zI 0,zE,zN,zN,zN],.bool false]) W:=by kernel_rfl
theorem Nz(W:zW):(Instr.typeAssert .nilIface 107 211 true).run prog W=.ok (.tuple #[.agg #[zI 0,zN],.bool false]) W:=by kernel_rfl
theorem NA(W:zW):(Instr.typeAssert .nilIface 107 213 true).run prog W=.ok (.tuple #[.agg #[zN,zN],.bool false]) W:=by kernel_rfl
theorem NB(W:zW):(Instr.typeAssert .nilIface 107 89 true).run prog W=.ok (.tuple #[.agg #[zN,zN],.bool false]) W:=by kernel_rfl
theorem NC(W:zW):(Instr.typeAssert .nilIface 107 92 true).run prog W=.ok (.tuple #[.agg #[zN,zN],.bool false]) W:=by kernel_rfl
end Pn
namespace Pn
open Mf Ed
variable{w w' W G Z:zW}{A:Nat->Prop}{J Y Q:Nat}{cap:Int}{I:List Int}{D:List Kp}
def kP:Fi->Nat
 | .man _ _=>0
 | .idx _ _=>1
 | .wants _ _=>2
 | .list _ _=>3
 | .ord _ _=>4
def bump(I:List Int)(j:Nat):List Int:=I.set j (wrap64 (I[j]?.getD 0+1))
theorem cP.bump(h:cP A w J Y Q cap I D)(j:Nat):cP A (w.setCell ⟨J,3+j,none⟩ (zI (wrap64 (I[j]?.getD 0+1)))) J Y Q cap (bump I j) D:=by
 refine⟨h.f0.set (by omega),h.f1.set (by omega),h.f2.set (by omega),fun i c E=>?_,?_,h.ne,h.hd,h.hf⟩
 ·unfold Pn.bump at E
  by_cases e:j=i
  ·subst e
   rw[List.getElem?_set_self'] at E;cases e2:I[j]? with
   |none=>rw[e2] at E;simp at E
   |some F=>
    rw[e2] at E;simp at E;rw[<-E];exact oI (h.cn j F e2) _
  ·rw[List.getElem?_set_ne e] at E
   exact(h.cn i c E).set (by omega)
 ·obtain⟨L,M,O⟩:=h.map
  refine⟨L,M.of_block (aM _ _ _ _ (fun e=>h.ne e.symm)),O.turn ((ai.refl A w).set (a:=⟨J,3+j,none⟩) (fun _=>h.hd) _)⟩
theorem KQ{fv:zV}{f:Fi}(w:zW)(h:cP A w J Y Q cap I D)(hf:fP A w fv f)(hc:I.length=5):
  zC 129 #[zP J,fv] w fun e w'=>e=.returned (.tuple #[])/\w'=w.setCell ⟨J,3+kP f,none⟩ (zI (wrap64 (I[kP f]?.getD 0+1))):=by
 match I,hc with
 |[k0,k1,k2,k3,k4],_=>
 have g0:=h.cn 0 k0 rfl;have g1:=h.cn 1 k1 rfl;have g2:=h.cn 2 k2 rfl;have g3:=h.cn 3 k3 rfl;have g4:=h.cn 4 k4 rfl;clear h;obtain⟨c0,f0⟩:=g0;obtain⟨c1,f1⟩:=g1;obtain⟨c2,f2⟩:=g2;obtain⟨c3,f3⟩:=g3;obtain⟨c4,f4⟩:=g4;cases f with
 |man pr m=>
  obtain⟨rv,xv,sv,rfl,_⟩:=hf;have t0:=KE (.agg #[zI pr,.string m.p,rv,xv,sv]) w;go_enter func129,ntmps129;go_wp2;exact gB (v:=.tuple #[]) (by simp[results,results129,go_sem]) rfl ⟨rfl,rfl⟩
 |idx pr vs=>
  obtain⟨u,rfl,_⟩:=hf;have t0:=Ii (.agg #[zI pr,u]) w;have t1:=KJ (.agg #[zI pr,u]) w;go_enter func129,ntmps129;go_wp2;exact gB (v:=.tuple #[]) (by simp[results,results129,go_sem]) rfl ⟨rfl,rfl⟩
 |wants ms ps=>
  obtain⟨a,b,rfl,_⟩:=hf;have t0:=Ij (.agg #[a,b]) w;have t1:=Im (.agg #[a,b]) w;have t2:=KL (.agg #[a,b]) w;go_enter func129,ntmps129;go_wp2;exact gB (v:=.tuple #[]) (by simp[results,results129,go_sem]) rfl ⟨rfl,rfl⟩
 |list ms ps=>
  obtain⟨a,b,rfl,_⟩:=hf;have t0:=Ik (.agg #[a,b]) w;have t1:=Io (.agg #[a,b]) w;have t2:=Iq (.agg #[a,b]) w;have t3:=KN (.agg #[a,b]) w;go_enter func129,ntmps129;go_wp2;exact gB (v:=.tuple #[]) (by simp[results,results129,go_sem]) rfl ⟨rfl,rfl⟩
 |ord ms ps=>
  obtain⟨a,b,rfl,_⟩:=hf;have t0:=Il (.agg #[a,b]) w;have t1:=Ip (.agg #[a,b]) w;have t2:=Ir (.agg #[a,b]) w;have t3:=Iu (.agg #[a,b]) w;have t4:=KO (.agg #[a,b]) w;go_enter func129,ntmps129;go_wp2;exact gB (v:=.tuple #[]) (by simp[results,results129,go_sem]) rfl ⟨rfl,rfl⟩
end Pn
namespace Pn
open Mf
variable{A A2:Nat->Prop}
theorem RdA.at{α:Type}{enc:α->List zV}{w W:zW}{v:zV}{L:List α}{s:Nat}(h:RdA A enc w v L)(S:∀x,(enc x).length=s)(T:0<s)(hb:Below w.heap.size w W)(i:Nat)(M:i<L.length):
  ∃b off c,v=.slice (some ⟨b,off,none⟩) L.length c/\∀j u,(enc L[i])[j]?=some u->W.cell? ⟨b,off+i*s+j,none⟩=some u:=by
 rcases h.below hb with⟨_,h⟩|⟨b,off,c,h,_,hc⟩
 ·rw[h] at M;simp at M
 ·refine⟨b,off,c,h,fun j u O=>?_⟩
  have E:j<s:=by rw[<-S L[i]];exact(dv.1 O).1
  rw[Nat.add_assoc];refine hc _ u ?_
  have F:i*s+j<L.length*s:=by
   have:(i+1)*s<=L.length*s:=eG s M;rw[eJ] at this;omega
  haveI:Inhabited α:=⟨L[i]⟩
  rw[Ss.flat_get S T L (i*s+j) F];have U:(i*s+j)/s=i:=by rw[Nat.mul_comm,Nat.mul_add_div T,Nat.div_eq_of_lt E];omega
  have V:(i*s+j)%s=j:=by rw[Nat.mul_comm,Nat.mul_add_mod];exact Nat.mod_eq_of_lt E
  rw[U,V,bJ L i M];exact O
theorem gR:∀x:Pb,(aJ x).length=3:=fun _=>rfl
theorem int_ne{a b:Nat}(h:a≠b):(((a:Nat):Int)==(b:Int))=false:=by
 rw[eI];omega
theorem nc{α:Type}{L M:List α}(E:L.length=M.length)(h:∀j (F:j<L.length) (O:j<M.length),L[j]=M[j]):L=M:=List.ext_getElem E h
open Classical in
theorem po(u v:zV)(L M:List Mo)(w:zW)(hL:L.length<=16777216)(h1:RdA A Sm.mc w u L)(h2:RdA A2 Sm.mc w v M):
  zC 286 #[u,v] w fun e w'=>e=.returned (.bool (decide (L=M)))/\Below w.heap.size w w':=by
 obtain⟨a1,c1,e1⟩:=h1.len;obtain⟨a2,c2,e2⟩:=h2.len;subst e1;subst e2;by_cases E:L.length=M.length
 ·have D1:Aside _:=h1
  have D2:Aside _:=h2;rw[<-E];have LM:=zH E
  have HT:Hid (∀b:Bool,(b=true↔L=M)->decide (L=M)=b):=fun b hb=>by
   cases b
   ·exact aQ (fun e=>by have:=hb.2 e;cases this)
   ·exact bj (hb.1 rfl)
  obtain⟨r,hr⟩:∃r,r=decide (L=M):=⟨_,rfl⟩;rw[<-hr];have S:=zH hr;clear hr h1 h2 E
  have FG:Hid (∀wr,Below w.heap.size w wr->∀i,i<L.length->∃(x y:Mo)(b o:Nat)(b' o':Nat),L[i]?=some x/\M[i]?=some y/\a1=some ⟨b,o,none⟩/\a2=some ⟨b',o',none⟩/\wr.cell? ⟨b,o+i*2,none⟩=some (.string x.1)/\wr.cell? ⟨b,o+i*2+1,none⟩=some (.string x.2)/\wr.cell? ⟨b',o'+i*2,none⟩=some (.string y.1)/\wr.cell? ⟨b',o'+i*2+1,none⟩=some (.string y.2)):=fun wr hb i hi=>by
   obtain⟨b,o,c,eg,V⟩:=RdA.at (A:=A) (L:=L) D1.out fC (by decide) hb i hi;injection eg with a4 _ _;have a0:i<M.length:=by have:=LM.out;omega
   obtain⟨b',o',c',a3,hy⟩:=RdA.at (A:=A2) (L:=M) D2.out fC (by decide) hb i a0;injection a3 with uj _ _;refine⟨L[i],M[i],b,o,b',o',aV hi,aV a0,a4,uj,?_,?_,?_,?_⟩
   ·have:=V 0 _ rfl;simpa using this
   ·have:=V 1 _ rfl;simpa using this
   ·have:=hy 0 _ rfl;simpa using this
   ·have:=hy 1 _ rfl;simpa using this
  clear D1 D2;generalize hn:L.length=n at*;have qm:(((n:Nat):Int)==(n:Int))=true:=by simp
  go_enter func286,ntmps286;go_wp2;go_loopg [13] n (fun gg s wr=>∃i:Nat,i<=n/\n-i<=gg/\s=zI i/\Below w.heap.size w wr/\Hid (∀j x y,j<i->L[j]?=some x->M[j]?=some y->x=y))
  case atStart=>exact⟨0,by omega,by omega,rfl,ae _ _,fun j x y h=>absurd h (dY _)⟩
  case round=>
   obtain⟨i,hi,hg,rfl,O,HJ⟩:=hrel;by_cases a6:i<n
   ·obtain⟨x,y,b,o,b',o',V,hy,rfl,rfl,x0,x1,y0,y1⟩:=FG.out wr O i a6
    have a5:((i:Nat):Int)<(n:Int):=by omega
    by_cases he:x=y
    ·subst he
     have HN:Hid (∀j x y,j<i+1->L[j]?=some x->M[j]?=some y->x=y):=fun j x' y' hj h3 h4=>by
      by_cases e:j=i
      ·subst e
       rw[V] at h3;rw[hy] at h4;rw[<-bK h3,<-bK h4]
      ·exact HJ.out j x' y' (by omega) h3 h4
     clear V hy;generalize x.1=k0 at*;have q0:(k0.toList==k0.toList)=true:=by simp
     generalize x.2=k1 at*;have q1:(k1.toList==k1.toList)=true:=by simp
     go_upto_region 6 with fail;go_quiet (fail);generalize T:World.drewN _ _=W4;have F:Below w.heap.size w W4:=by rw[<-T];exact aK O _
     clear T;go_wp2;go_roundg (n-(i+1))
     case measure=>omega
     case rel=>exact⟨i+1,by omega,by omega,by go_num,F,HN⟩
    ·have a7:r=false:=by
      rw[S.out];exact aQ (fun e=>he (by subst e;rw[V] at hy;exact bK hy))
     have U:Hid (¬(x.1=y.1/\x.2=y.2)):=fun h=>he (ez h.1 h.2)
     clear V hy he S HT;subst a7;generalize x.1=k0 at*;generalize y.1=m0 at*;generalize x.2=k1 at*;generalize y.2=m1 at*;by_cases t0:k0=m0
     ·subst t0
      have q0:(k0.toList==k0.toList)=true:=by simp
      have d1:=Rn.bM (fun h:k1=m1=>U.out ⟨rfl,h⟩);clear U;go_upto_region 6 with fail;go_quiet (fail);generalize T:World.drewN _ _=W4;have F:Below w.heap.size w W4:=by rw[<-T];exact aK O _
      clear T;go_wp2;go_ret;exact⟨rfl,F⟩
     ·have d0:=Rn.bM t0
      clear U t0;go_upto_region 6 with fail;go_quiet (fail);generalize T:World.drewN _ _=W4;have F:Below w.heap.size w W4:=by rw[<-T];exact aK O _
      clear T;go_wp2;go_ret;exact⟨rfl,F⟩
   ·have a5:(((i:Nat):Int)<(n:Int))=False:=by simp;omega
    have a8:r=true:=by
     rw[S.out];refine bj (nc (hn.trans LM.out) (fun j h3 h4=>HJ.out j _ _ (by omega) (aV h3) (aV h4)))
    clear S HT;subst a8;go_wp2;go_ret;exact⟨rfl,O⟩
 ·have hd:decide (L=M)=false:=aQ (fun e=>E (by rw[e]))
  rw[hd];have a9:(((L.length:Nat):Int)==(M.length:Int))=false:=int_ne E;clear hd h1 h2;generalize L.length=n at*;generalize M.length=m at*;go_enter func286,ntmps286;go_wp2;go_ret;exact⟨rfl,ae _ _⟩
open Classical in
theorem Db(u v:zV)(L M:List Pb)(w:zW)(hL:L.length<=16777216)(h1:RdA A aJ w u L)(h2:RdA A2 aJ w v M):
  zC 288 #[u,v] w fun e w'=>e=.returned (.bool (decide (L=M)))/\Below w.heap.size w w':=by
 obtain⟨a1,c1,e1⟩:=h1.len;obtain⟨a2,c2,e2⟩:=h2.len;subst e1;subst e2;by_cases E:L.length=M.length
 ·have D1:Aside _:=h1
  have D2:Aside _:=h2;rw[<-E];have LM:=zH E
  have HT:Hid (∀b:Bool,(b=true↔L=M)->decide (L=M)=b):=fun b hb=>by
   cases b
   ·exact aQ (fun e=>by have:=hb.2 e;cases this)
   ·exact bj (hb.1 rfl)
  obtain⟨r,hr⟩:∃r,r=decide (L=M):=⟨_,rfl⟩;rw[<-hr];have U:=zH hr;clear hr h1 h2 E
  have FG:Hid (∀wr,Below w.heap.size w wr->∀i,i<L.length->∃(x y:Pb)(b o:Nat)(b' o':Nat),L[i]?=some x/\M[i]?=some y/\a1=some ⟨b,o,none⟩/\a2=some ⟨b',o',none⟩/\wr.cell? ⟨b,o+i*3,none⟩=some (zI (x.1:Nat))/\wr.cell? ⟨b,o+i*3+1,none⟩=some (.string x.2.1)/\wr.cell? ⟨b,o+i*3+2,none⟩=some (.string x.2.2)/\wr.cell? ⟨b',o'+i*3,none⟩=some (zI (y.1:Nat))/\wr.cell? ⟨b',o'+i*3+1,none⟩=some (.string y.2.1)/\wr.cell? ⟨b',o'+i*3+2,none⟩=some (.string y.2.2)):=fun wr hb i hi=>by
   obtain⟨b,o,c,eg,V⟩:=RdA.at (A:=A) (L:=L) D1.out gR (by decide) hb i hi;injection eg with a4 _ _;have a0:i<M.length:=by have:=LM.out;omega
   obtain⟨b',o',c',a3,hy⟩:=RdA.at (A:=A2) (L:=M) D2.out gR (by decide) hb i a0;injection a3 with uj _ _;refine⟨L[i],M[i],b,o,b',o',aV hi,aV a0,a4,uj,?_,?_,?_,?_,?_,?_⟩
   ·have:=V 0 _ rfl;simpa using this
   ·have:=V 1 _ rfl;simpa using this
   ·have:=V 2 _ rfl;simpa using this
   ·have:=hy 0 _ rfl;simpa using this
   ·have:=hy 1 _ rfl;simpa using this
   ·have:=hy 2 _ rfl;simpa using this
  clear D1 D2;generalize hn:L.length=n at*;have qm:(((n:Nat):Int)==(n:Int))=true:=by simp
  go_enter func288,ntmps288;go_wp2;go_loopg [13] n (fun gg s wr=>∃i:Nat,i<=n/\n-i<=gg/\s=zI i/\Below w.heap.size w wr/\Hid (∀j x y,j<i->L[j]?=some x->M[j]?=some y->x=y))
  case atStart=>exact⟨0,by omega,by omega,rfl,ae _ _,fun j x y h=>absurd h (dY _)⟩
  case round=>
   obtain⟨i,hi,hg,rfl,O,HJ⟩:=hrel;by_cases a6:i<n
   ·obtain⟨x,y,b,o,b',o',V,hy,rfl,rfl,x0,x1,x2,y0,y1,y2⟩:=FG.out wr O i a6
    have a5:((i:Nat):Int)<(n:Int):=by omega
    by_cases he:x=y
    ·subst he
     have HN:Hid (∀j x y,j<i+1->L[j]?=some x->M[j]?=some y->x=y):=fun j x' y' hj h3 h4=>by
      by_cases e:j=i
      ·subst e
       rw[V] at h3;rw[hy] at h4;rw[<-bK h3,<-bK h4]
      ·exact HJ.out j x' y' (by omega) h3 h4
     clear V hy;generalize x.1=k0 at*;have q0:(((k0:Nat):Int)==(k0:Int))=true:=by simp
     generalize x.2.1=k1 at*;have q1:(k1.toList==k1.toList)=true:=by simp
     generalize x.2.2=k2 at*;have q2:(k2.toList==k2.toList)=true:=by simp
     go_upto_region 6 with fail;go_quiet (fail);generalize S:World.drewN _ _=W4;have F:Below w.heap.size w W4:=by rw[<-S];exact aK O _
     clear S;go_wp2;go_roundg (n-(i+1))
     case measure=>omega
     case rel=>exact⟨i+1,by omega,by omega,by go_num,F,HN⟩
    ·have a7:r=false:=by
      rw[U.out];exact aQ (fun e=>he (by subst e;rw[V] at hy;exact bK hy))
     have T:Hid (¬(x.1=y.1/\x.2.1=y.2.1/\x.2.2=y.2.2)):=fun h=>he (ez h.1 (ez h.2.1 h.2.2))
     clear V hy he U HT;subst a7;generalize x.1=k0 at*;generalize y.1=m0 at*;generalize x.2.1=k1 at*;generalize y.2.1=m1 at*;generalize x.2.2=k2 at*;generalize y.2.2=m2 at*;by_cases t0:k0=m0
     ·subst t0
      have q0:(((k0:Nat):Int)==(k0:Int))=true:=by simp
      by_cases t1:k1=m1
      ·subst t1
       have q1:(k1.toList==k1.toList)=true:=by simp
       have d2:=Rn.bM (fun h:k2=m2=>T.out ⟨rfl,rfl,h⟩);clear T;go_upto_region 6 with fail;go_quiet (fail);generalize S:World.drewN _ _=W4;have F:Below w.heap.size w W4:=by rw[<-S];exact aK O _
       clear S;go_wp2;go_ret;exact⟨rfl,F⟩
      ·have d1:=Rn.bM t1
       clear T t1;go_upto_region 6 with fail;go_quiet (fail);generalize S:World.drewN _ _=W4;have F:Below w.heap.size w W4:=by rw[<-S];exact aK O _
       clear S;go_wp2;go_ret;exact⟨rfl,F⟩
     ·have d0:=int_ne t0
      clear T t0;go_upto_region 6 with fail;go_quiet (fail);generalize S:World.drewN _ _=W4;have F:Below w.heap.size w W4:=by rw[<-S];exact aK O _
      clear S;go_wp2;go_ret;exact⟨rfl,F⟩
   ·have a5:(((i:Nat):Int)<(n:Int))=False:=by simp;omega
    have a8:r=true:=by
     rw[U.out];refine bj (nc (hn.trans LM.out) (fun j h3 h4=>HJ.out j _ _ (by omega) (aV h3) (aV h4)))
    clear U HT;subst a8;go_wp2;go_ret;exact⟨rfl,O⟩
 ·have hd:decide (L=M)=false:=aQ (fun e=>E (by rw[e]))
  rw[hd];have a9:(((L.length:Nat):Int)==(M.length:Int))=false:=int_ne E;clear hd h1 h2;generalize L.length=n at*;generalize M.length=m at*;go_enter func288,ntmps288;go_wp2;go_ret;exact⟨rfl,ae _ _⟩
open Classical in
theorem Iv(u v:zV)(L M:List So)(w:zW)(hL:L.length<=16777216)(h1:RdA A Sw.mc w u L)(h2:RdA A2 Sw.mc w v M):
  zC 290 #[u,v] w fun e w'=>e=.returned (.bool (decide (L=M)))/\Below w.heap.size w w':=by
 obtain⟨a1,c1,e1⟩:=h1.len;obtain⟨a2,c2,e2⟩:=h2.len;subst e1;subst e2;by_cases E:L.length=M.length
 ·have D1:Aside _:=h1
  have D2:Aside _:=h2;rw[<-E];have LM:=zH E
  have HT:Hid (∀b:Bool,(b=true↔L=M)->decide (L=M)=b):=fun b hb=>by
   cases b
   ·exact aQ (fun e=>by have:=hb.2 e;cases this)
   ·exact bj (hb.1 rfl)
  obtain⟨r,hr⟩:∃r,r=decide (L=M):=⟨_,rfl⟩;rw[<-hr];have U:=zH hr;clear hr h1 h2 E
  have FG:Hid (∀wr,Below w.heap.size w wr->∀i,i<L.length->∃(x y:So)(b o:Nat)(b' o':Nat),L[i]?=some x/\M[i]?=some y/\a1=some ⟨b,o,none⟩/\a2=some ⟨b',o',none⟩/\wr.cell? ⟨b,o+i*3,none⟩=some (.string x.1)/\wr.cell? ⟨b,o+i*3+1,none⟩=some (.string x.2.1)/\wr.cell? ⟨b,o+i*3+2,none⟩=some (.string x.2.2)/\wr.cell? ⟨b',o'+i*3,none⟩=some (.string y.1)/\wr.cell? ⟨b',o'+i*3+1,none⟩=some (.string y.2.1)/\wr.cell? ⟨b',o'+i*3+2,none⟩=some (.string y.2.2)):=fun wr hb i hi=>by
   obtain⟨b,o,c,eg,V⟩:=RdA.at (A:=A) (L:=L) D1.out sD (by decide) hb i hi;injection eg with a4 _ _;have a0:i<M.length:=by have:=LM.out;omega
   obtain⟨b',o',c',a3,hy⟩:=RdA.at (A:=A2) (L:=M) D2.out sD (by decide) hb i a0;injection a3 with uj _ _;refine⟨L[i],M[i],b,o,b',o',aV hi,aV a0,a4,uj,?_,?_,?_,?_,?_,?_⟩
   ·have:=V 0 _ rfl;simpa using this
   ·have:=V 1 _ rfl;simpa using this
   ·have:=V 2 _ rfl;simpa using this
   ·have:=hy 0 _ rfl;simpa using this
   ·have:=hy 1 _ rfl;simpa using this
   ·have:=hy 2 _ rfl;simpa using this
  clear D1 D2;generalize hn:L.length=n at*;have qm:(((n:Nat):Int)==(n:Int))=true:=by simp
  go_enter func290,ntmps290;go_wp2;go_loopg [13] n (fun gg s wr=>∃i:Nat,i<=n/\n-i<=gg/\s=zI i/\Below w.heap.size w wr/\Hid (∀j x y,j<i->L[j]?=some x->M[j]?=some y->x=y))
  case atStart=>exact⟨0,by omega,by omega,rfl,ae _ _,fun j x y h=>absurd h (dY _)⟩
  case round=>
   obtain⟨i,hi,hg,rfl,O,HJ⟩:=hrel;by_cases a6:i<n
   ·obtain⟨x,y,b,o,b',o',V,hy,rfl,rfl,x0,x1,x2,y0,y1,y2⟩:=FG.out wr O i a6
    have a5:((i:Nat):Int)<(n:Int):=by omega
    by_cases he:x=y
    ·subst he
     have HN:Hid (∀j x y,j<i+1->L[j]?=some x->M[j]?=some y->x=y):=fun j x' y' hj h3 h4=>by
      by_cases e:j=i
      ·subst e
       rw[V] at h3;rw[hy] at h4;rw[<-bK h3,<-bK h4]
      ·exact HJ.out j x' y' (by omega) h3 h4
     clear V hy;generalize x.1=k0 at*;have q0:(k0.toList==k0.toList)=true:=by simp
     generalize x.2.1=k1 at*;have q1:(k1.toList==k1.toList)=true:=by simp
     generalize x.2.2=k2 at*;have q2:(k2.toList==k2.toList)=true:=by simp
     go_upto_region 6 with fail;go_quiet (fail);generalize S:World.drewN _ _=W4;have F:Below w.heap.size w W4:=by rw[<-S];exact aK O _
     clear S;go_wp2;go_roundg (n-(i+1))
     case measure=>omega
     case rel=>exact⟨i+1,by omega,by omega,by go_num,F,HN⟩
    ·have a7:r=false:=by
      rw[U.out];exact aQ (fun e=>he (by subst e;rw[V] at hy;exact bK hy))
     have T:Hid (¬(x.1=y.1/\x.2.1=y.2.1/\x.2.2=y.2.2)):=fun h=>he (ez h.1 (ez h.2.1 h.2.2))
     clear V hy he U HT;subst a7;generalize x.1=k0 at*;generalize y.1=m0 at*;generalize x.2.1=k1 at*;generalize y.2.1=m1 at*;generalize x.2.2=k2 at*;generalize y.2.2=m2 at*;by_cases t0:k0=m0
     ·subst t0
      have q0:(k0.toList==k0.toList)=true:=by simp
      by_cases t1:k1=m1
      ·subst t1
       have q1:(k1.toList==k1.toList)=true:=by simp
       have d2:=Rn.bM (fun h:k2=m2=>T.out ⟨rfl,rfl,h⟩);clear T;go_upto_region 6 with fail;go_quiet (fail);generalize S:World.drewN _ _=W4;have F:Below w.heap.size w W4:=by rw[<-S];exact aK O _
       clear S;go_wp2;go_ret;exact⟨rfl,F⟩
      ·have d1:=Rn.bM t1
       clear T t1;go_upto_region 6 with fail;go_quiet (fail);generalize S:World.drewN _ _=W4;have F:Below w.heap.size w W4:=by rw[<-S];exact aK O _
       clear S;go_wp2;go_ret;exact⟨rfl,F⟩
     ·have d0:=Rn.bM t0
      clear T t0;go_upto_region 6 with fail;go_quiet (fail);generalize S:World.drewN _ _=W4;have F:Below w.heap.size w W4:=by rw[<-S];exact aK O _
      clear S;go_wp2;go_ret;exact⟨rfl,F⟩
   ·have a5:(((i:Nat):Int)<(n:Int))=False:=by simp;omega
    have a8:r=true:=by
     rw[U.out];refine bj (nc (hn.trans LM.out) (fun j h3 h4=>HJ.out j _ _ (by omega) (aV h3) (aV h4)))
    clear U HT;subst a8;go_wp2;go_ret;exact⟨rfl,O⟩
 ·have hd:decide (L=M)=false:=aQ (fun e=>E (by rw[e]))
  rw[hd];have a9:(((L.length:Nat):Int)==(M.length:Int))=false:=int_ne E;clear hd h1 h2;generalize L.length=n at*;generalize M.length=m at*;go_enter func290,ntmps290;go_wp2;go_ret;exact⟨rfl,ae _ _⟩
open Classical in
theorem uk(u v:zV)(L M:List zA)(w:zW)(hL:L.length<=16777216)(h1:RdA A dB w u L)(h2:RdA A2 dB w v M):
  zC 48 #[u,v] w fun e w'=>e=.returned (.bool (decide (L=M)))/\Below w.heap.size w w':=by
 obtain⟨a1,c1,e1⟩:=h1.len;obtain⟨a2,c2,e2⟩:=h2.len;subst e1;subst e2;by_cases E:L.length=M.length
 ·have D1:Aside _:=h1
  have D2:Aside _:=h2;rw[<-E];have LM:=zH E
  have HT:Hid (∀b:Bool,(b=true↔L=M)->decide (L=M)=b):=fun b hb=>by
   cases b
   ·exact aQ (fun e=>by have:=hb.2 e;cases this)
   ·exact bj (hb.1 rfl)
  obtain⟨r,hr⟩:∃r,r=decide (L=M):=⟨_,rfl⟩;rw[<-hr];have F:=zH hr;clear hr h1 h2 E
  have FG:Hid (∀wr,Below w.heap.size w wr->∀i,i<L.length->∃(x y:zA)(b o:Nat)(V o':Nat),L[i]?=some x/\M[i]?=some y/\a1=some ⟨b,o,none⟩/\a2=some ⟨V,o',none⟩/\wr.cell? ⟨b,o+i,none⟩=some (.string x)/\wr.cell? ⟨V,o'+i,none⟩=some (.string y)):=fun wr hb i hi=>by
   obtain⟨b,o,c,eg,T⟩:=RdA.at (A:=A) (L:=L) D1.out pT (by decide) hb i hi;injection eg with a4 _ _;have a0:i<M.length:=by have:=LM.out;omega
   obtain⟨V,o',c',a3,hy⟩:=RdA.at (A:=A2) (L:=M) D2.out pT (by decide) hb i a0;injection a3 with uj _ _;refine⟨L[i],M[i],b,o,V,o',aV hi,aV a0,a4,uj,?_,?_⟩
   ·have:=T 0 _ rfl;simpa using this
   ·have:=hy 0 _ rfl;simpa using this
  clear D1 D2;generalize hn:L.length=n at*;have qm:(((n:Nat):Int)==(n:Int))=true:=by simp
  go_enter func48,ntmps48;go_wp2;go_loopg [13] n (fun gg s wr=>∃i:Nat,i<=n/\n-i<=gg/\s=zI i/\Below w.heap.size w wr/\Hid (∀j x y,j<i->L[j]?=some x->M[j]?=some y->x=y))
  case atStart=>exact⟨0,by omega,by omega,rfl,ae _ _,fun j x y h=>absurd h (dY _)⟩
  case round=>
   obtain⟨i,hi,hg,rfl,O,HJ⟩:=hrel;by_cases a6:i<n
   ·obtain⟨x,y,b,o,V,o',T,hy,rfl,rfl,x0,y0⟩:=FG.out wr O i a6
    have a5:((i:Nat):Int)<(n:Int):=by omega
    by_cases he:x=y
    ·subst he
     have HN:Hid (∀j x y,j<i+1->L[j]?=some x->M[j]?=some y->x=y):=fun j x' y' hj h3 h4=>by
      by_cases e:j=i
      ·subst e
       rw[T] at h3;rw[hy] at h4;rw[<-bK h3,<-bK h4]
      ·exact HJ.out j x' y' (by omega) h3 h4
     clear T hy;have q0:(x.toList==x.toList)=true:=by simp
     go_upto_region 6 with fail;go_quiet (fail);generalize hW:World.drewN _ _=W4;have S:Below w.heap.size w W4:=by rw[<-hW];exact aK O _
     clear hW;go_wp2;go_roundg (n-(i+1))
     case measure=>omega
     case rel=>exact⟨i+1,by omega,by omega,by go_num,S,HN⟩
    ·have a7:r=false:=by
      rw[F.out];exact aQ (fun e=>he (by subst e;rw[T] at hy;exact bK hy))
     have U:Hid (¬(x=y)):=fun h=>he (h)
     clear T hy he F HT;subst a7;have d0:=Rn.bM (fun h:x=y=>U.out h);clear U;go_upto_region 6 with fail;go_quiet (fail);generalize hW:World.drewN _ _=W4;have S:Below w.heap.size w W4:=by rw[<-hW];exact aK O _
     clear hW;go_wp2;go_ret;exact⟨rfl,S⟩
   ·have a5:(((i:Nat):Int)<(n:Int))=False:=by simp;omega
    have a8:r=true:=by
     rw[F.out];refine bj (nc (hn.trans LM.out) (fun j h3 h4=>HJ.out j _ _ (by omega) (aV h3) (aV h4)))
    clear F HT;subst a8;go_wp2;go_ret;exact⟨rfl,O⟩
 ·have hd:decide (L=M)=false:=aQ (fun e=>E (by rw[e]))
  rw[hd];have a9:(((L.length:Nat):Int)==(M.length:Int))=false:=int_ne E;clear hd h1 h2;generalize L.length=n at*;generalize M.length=m at*;go_enter func48,ntmps48;go_wp2;go_ret;exact⟨rfl,ae _ _⟩
end Pn
namespace Pn
open Mf
variable{A:Nat->Prop}
def Small:Fi->Prop
 | .man _ m=>m.R.length<=100000/\m.X.length<=100000/\m.S.length<=100000
 | .idx _ F=>F.length<=100000
 | .wants ms ps=>ms.length<=100000/\ps.length<=100000
 | .list ms ps=>ms.length<=100000/\ps.length<=1000000
 | .ord E ps=>E.length<=100000/\ps.length<=100000
theorem ND(a b:zA):(a.toList==b.toList)=true↔a=b:=by
 constructor
 ·intro h
  by_cases e:a=b
  ·exact e
  ·rw[Rn.bM e] at h;cases h
 ·intro h;rw[h];simp
theorem Bp(a b:Nat):(((a:Nat):Int)==(b:Int))=true↔a=b:=by
 constructor
 ·intro h
  by_cases e:a=b
  ·exact e
  ·rw[int_ne e] at h;cases h
 ·intro h;rw[h];simp
open Classical in
theorem KT(pr E:Nat)(p p':zA)(Rv a8:zV)(R R':List Mo)(Xv aa:zV)(X X':List Mo)(Sv a9:zV)(S S':List So)(w:zW)(lR:R.length<=100000)(lX:X.length<=100000)(lS:S.length<=100000)(hR:RdA A Sm.mc w Rv R)(hX:RdA A Sm.mc w Xv X)(hS:RdA A Sw.mc w Sv S)(ad:RdA A Sm.mc w a8 R')(an:RdA A Sm.mc w aa X')(ak:RdA A Sw.mc w a9 S'):
  zC 289 #[.agg #[zI (pr:Nat),.string p,Rv,Xv,Sv],.iface 208 (.agg #[zI (E:Nat),.string p',a8,aa,a9])] w fun e w'=>e=.returned (.bool (decide (pr=E/\p=p'/\R=R'/\X=X'/\S=S')))/\Below w.heap.size w w':=by
 have KR:Hid (∀W,Below w.heap.size w W->zC 286 #[Rv,a8] W fun e w'=>e=.returned (.bool (decide (R=R')))/\Below W.heap.size W w'):=fun W hb=>po Rv a8 R R' W (by omega) (hR.below hb) (ad.below hb)
 obtain⟨aR,cR,eR⟩:=hR.len;obtain⟨O,V,b5⟩:=ad.len;have KX:Hid (∀W,Below w.heap.size w W->zC 286 #[Xv,aa] W fun e w'=>e=.returned (.bool (decide (X=X')))/\Below W.heap.size W w'):=fun W hb=>po Xv aa X X' W (by omega) (hX.below hb) (an.below hb)
 obtain⟨aX,cX,eX⟩:=hX.len;obtain⟨U,a1,b7⟩:=an.len;have KS:Hid (∀W,Below w.heap.size w W->zC 290 #[Sv,a9] W fun e w'=>e=.returned (.bool (decide (S=S')))/\Below W.heap.size W w'):=fun W hb=>Iv Sv a9 S S' W (by omega) (hS.below hb) (ak.below hb)
 obtain⟨aS,cS,eS⟩:=hS.len;obtain⟨T,a0,b6⟩:=ak.len
 have HE:decide (pr=E/\p=p'/\R=R'/\X=X'/\S=S')=((((pr:Nat):Int)==(E:Int))&&(p.toList==p'.toList)&&(decide (R=R'))&&(decide (X=X'))&&(decide (S=S'))):=by
  rw[fW];simp only[nK,ed,ND,Bp,and_assoc]
 rw[HE];clear HE;clear hR ad;clear hX an;clear hS ak;subst eR;subst b5;subst eX;subst b7;subst eS;subst b6;generalize bb:(((pr:Nat):Int)==(E:Int))=b0;generalize ab:(p.toList==p'.toList)=b1;generalize decide (R=R')=b2 at*;generalize decide (X=X')=b3 at*;generalize decide (S=S')=b4 at*;generalize R.length=nR at*;generalize R'.length=a2 at*;generalize X.length=nX at*;generalize X'.length=a4 at*;generalize S.length=nS at*;generalize S'.length=a3 at*;have t0:=KE (.agg #[zI (E:Nat),.string p',.slice O a2 V,.slice U a4 a1,.slice T a3 a0]) (w.alloc (.cells #[zI (pr:Nat),.string p,.slice aR nR cR,.slice aX nX cX,.slice aS nS cS] 208));have ab:Below w.heap.size w (w.alloc (.cells #[zI (pr:Nat),.string p,.slice aR nR cR,.slice aX nX cX,.slice aS nS cS] 208)):=(ae _ _).alloc (af _) _;have HB:Hid (Below w.heap.size w ((w.alloc (.cells #[zI (pr:Nat),.string p,.slice aR nR cR,.slice aX nX cX,.slice aS nS cS] 208)).alloc (.cells #[zI (E:Nat),.string p',.slice O a2 V,.slice U a4 a1,.slice T a3 a0] 208))):=ab.alloc ab.size _
 have HC:Hid (∀W,Below ((w.alloc (.cells #[zI (pr:Nat),.string p,.slice aR nR cR,.slice aX nX cX,.slice aS nS cS] 208)).alloc (.cells #[zI (E:Nat),.string p',.slice O a2 V,.slice U a4 a1,.slice T a3 a0] 208)).heap.size ((w.alloc (.cells #[zI (pr:Nat),.string p,.slice aR nR cR,.slice aX nX cX,.slice aS nS cS] 208)).alloc (.cells #[zI (E:Nat),.string p',.slice O a2 V,.slice U a4 a1,.slice T a3 a0] 208)) W->W.cell? ⟨w.heap.size,0,none⟩=some (zI (pr:Nat))/\W.cell? ⟨w.heap.size,1,none⟩=some (.string p)/\W.cell? ⟨w.heap.size,2,none⟩=some (.slice aR nR cR)/\W.cell? ⟨w.heap.size,3,none⟩=some (.slice aX nX cX)/\W.cell? ⟨w.heap.size,4,none⟩=some (.slice aS nS cS)/\W.cell? ⟨w.heap.size+1,0,none⟩=some (zI (E:Nat))/\W.cell? ⟨w.heap.size+1,1,none⟩=some (.string p')/\W.cell? ⟨w.heap.size+1,2,none⟩=some (.slice O a2 V)/\W.cell? ⟨w.heap.size+1,3,none⟩=some (.slice U a4 a1)/\W.cell? ⟨w.heap.size+1,4,none⟩=some (.slice T a3 a0)):=fun W hb=>by
  refine⟨?_,?_,?_,?_,?_,?_,?_,?_,?_,?_⟩<;>(rw[hb.cell (by simp<;>omega)];simp[go_sem])
 clear ab;go_enter func289,ntmps289;go_upto_region 4 with fail;clear t0;generalize b8:((w.alloc (.cells #[zI (pr:Nat),.string p,.slice aR nR cR,.slice aX nX cX,.slice aS nS cS] 208)).alloc (.cells #[zI (E:Nat),.string p',.slice O a2 V,.slice U a4 a1,.slice T a3 a0] 208))=G at*;generalize a7:w.heap.size=bx at*;clear b8;obtain⟨x0,x1,x2,x3,x4,y0,y1,y2,y3,y4⟩:=HC.out G (ae _ _);have a5:=zH HB;clear HB;cases b0
 ·go_wp2
  go_ret;exact⟨rfl,by have h:=a5.out;first|exact h|(rw[<-a7] at h;exact h)⟩
 ·cases b1
  ·go_wp2
   go_ret;exact⟨rfl,by have h:=a5.out;first|exact h|(rw[<-a7] at h;exact h)⟩
  ·go_wp2_with (go_at_call 286;fail)
   go_at_call 286;refine(KR.out _ (by have h:=a5.out;exact h)).mono ?_;rintro e v2 ⟨rfl,av⟩;have F:Hid (Below bx w v2):=(a5.out).trans (av.mono (by have h:=(a5.out).size;omega));have a6:=zH av;obtain⟨Tc,Td,Te,Tf,Tg,Ti,Tj,Tk,Tl,Tm⟩:=HC.out v2 a6.out;cases b2
   ·go_wp2
    go_ret;exact⟨rfl,by have h:=F.out;first|exact h|(rw[<-a7] at h;exact h)⟩
   ·go_wp2_with (go_at_call 286;fail)
    go_at_call 286;refine(KX.out _ (by have h:=F.out;exact h)).mono ?_;rintro e v3 ⟨rfl,az⟩;have M:Hid (Below bx w v3):=(F.out).trans (az.mono (by have h:=(F.out).size;omega));have au:=zH (a6.out.trans (az.mono a6.out.size));obtain⟨Tn,Tp,Tq,Tr,Ts,Tv,Tw,Tz,TA,TB⟩:=HC.out v3 au.out;cases b3
    ·go_wp2
     go_ret;exact⟨rfl,by have h:=M.out;first|exact h|(rw[<-a7] at h;exact h)⟩
    ·go_wp2_with (go_at_call 290;fail)
     go_at_call 290;refine(KS.out _ (by have h:=M.out;exact h)).mono ?_;rintro e v4 ⟨rfl,b9⟩;have aq:Hid (Below bx w v4):=(M.out).trans (b9.mono (by have h:=(M.out).size;omega));go_wp2;go_ret;exact⟨by simp,by have h:=aq.out;first|exact h|(rw[<-a7] at h;exact h)⟩
theorem KU(pr:Nat)(p:zA)(E:Option Addr)(nR O:Nat)(M:Option Addr)(V T:Nat)(F:Option Addr)(U S:Nat)(w:zW):zC 289 #[.agg #[zI (pr:Nat),.string p,.slice E nR O,.slice M V T,.slice F U S],.nilIface] w fun e w'=>e=.returned (.bool false)/\Below w.heap.size w w':=by
 have t0:=Ny (w.alloc (.cells #[zI (pr:Nat),.string p,.slice E nR O,.slice M V T,.slice F U S] 208));have HB:Hid (Below w.heap.size w (w.alloc (.cells #[zI (pr:Nat),.string p,.slice E nR O,.slice M V T,.slice F U S] 208))):=(ae _ _).alloc (af _) _;go_enter func289,ntmps289;go_wp2;go_ret;exact⟨rfl,HB.out⟩
open Classical in
theorem KV(T E:Nat)(a0 NF:zV)(V F:List zA)(w:zW)(aa:V.length<=100000)(a2:RdA A dB w a0 V)(P7:RdA A dB w NF F):
  zC 291 #[.agg #[zI (T:Nat),a0],.iface 211 (.agg #[zI (E:Nat),NF])] w fun e w'=>e=.returned (.bool (decide (T=E/\V=F)))/\Below w.heap.size w w':=by
 have a5:Hid (∀W,Below w.heap.size w W->zC 48 #[a0,NF] W fun e w'=>e=.returned (.bool (decide (V=F)))/\Below W.heap.size W w'):=fun W hb=>uk a0 NF V F W (by omega) (a2.below hb) (P7.below hb)
 obtain⟨M,O,a6⟩:=a2.len;obtain⟨Iw,Ix,Se⟩:=P7.len
 have HE:decide (T=E/\V=F)=((((T:Nat):Int)==(E:Int))&&(decide (V=F))):=by
  rw[fW];simp only[nK,ed,Bp]
 rw[HE];clear HE;clear a2 P7;subst a6;subst Se;generalize a9:(((T:Nat):Int)==(E:Int))=b0;generalize decide (V=F)=b1 at*;generalize V.length=S at*;generalize F.length=Iy at*;have t0:=KJ (.agg #[zI (E:Nat),.slice Iw Iy Ix]) (w.alloc (.cells #[zI (T:Nat),.slice M S O] 211));have a1:Below w.heap.size w (w.alloc (.cells #[zI (T:Nat),.slice M S O] 211)):=(ae _ _).alloc (af _) _;have HB:Hid (Below w.heap.size w ((w.alloc (.cells #[zI (T:Nat),.slice M S O] 211)).alloc (.cells #[zI (E:Nat),.slice Iw Iy Ix] 211))):=a1.alloc a1.size _
 have HC:Hid (∀W,Below ((w.alloc (.cells #[zI (T:Nat),.slice M S O] 211)).alloc (.cells #[zI (E:Nat),.slice Iw Iy Ix] 211)).heap.size ((w.alloc (.cells #[zI (T:Nat),.slice M S O] 211)).alloc (.cells #[zI (E:Nat),.slice Iw Iy Ix] 211)) W->W.cell? ⟨w.heap.size,0,none⟩=some (zI (T:Nat))/\W.cell? ⟨w.heap.size,1,none⟩=some (.slice M S O)/\W.cell? ⟨w.heap.size+1,0,none⟩=some (zI (E:Nat))/\W.cell? ⟨w.heap.size+1,1,none⟩=some (.slice Iw Iy Ix)):=fun W hb=>by
  refine⟨?_,?_,?_,?_⟩<;>(rw[hb.cell (by simp<;>omega)];simp[go_sem])
 clear a1;go_enter func291,ntmps291;go_upto_region 4 with fail;clear t0;generalize a7:((w.alloc (.cells #[zI (T:Nat),.slice M S O] 211)).alloc (.cells #[zI (E:Nat),.slice Iw Iy Ix] 211))=G at*;generalize a4:w.heap.size=bx at*;clear a7;obtain⟨x0,x1,y0,y1⟩:=HC.out G (ae _ _);have U:=zH HB;clear HB;cases b0
 ·go_wp2
  go_ret;exact⟨rfl,by have h:=U.out;first|exact h|(rw[<-a4] at h;exact h)⟩
 ·go_wp2_with (go_at_call 48;fail)
  go_at_call 48;refine(a5.out _ (by have h:=U.out;exact h)).mono ?_;rintro e v1 ⟨rfl,a8⟩;have a3:Hid (Below bx w v1):=(U.out).trans (a8.mono (by have h:=(U.out).size;omega));go_wp2;go_ret;exact⟨by simp,by have h:=a3.out;first|exact h|(rw[<-a4] at h;exact h)⟩
theorem KW(O:Nat)(E:Option Addr)(M F:Nat)(w:zW):zC 291 #[.agg #[zI (O:Nat),.slice E M F],.nilIface] w fun e w'=>e=.returned (.bool false)/\Below w.heap.size w w':=by
 have t0:=Nz (w.alloc (.cells #[zI (O:Nat),.slice E M F] 211));have S:Hid (Below w.heap.size w (w.alloc (.cells #[zI (O:Nat),.slice E M F] 211))):=(ae _ _).alloc (af _) _;go_enter func291,ntmps291;go_wp2;go_ret;exact⟨rfl,S.out⟩
open Classical in
theorem Fb(a1 Bq:zV)(ms E:List Mo)(a2 vH:zV)(ps F:List Pb)(w:zW)(av:ms.length<=100000)(az:ps.length<=100000)(a5:RdA A Sm.mc w a1 ms)(a6:RdA A aJ w a2 ps)(Fc:RdA A Sm.mc w Bq E)(Fe:RdA A aJ w vH F):
  zC 292 #[.agg #[a1,a2],.iface 213 (.agg #[Bq,vH])] w fun e w'=>e=.returned (.bool (decide (ms=E/\ps=F)))/\Below w.heap.size w w':=by
 have ab:Hid (∀W,Below w.heap.size w W->zC 286 #[a1,Bq] W fun e w'=>e=.returned (.bool (decide (ms=E)))/\Below W.heap.size W w'):=fun W hb=>po a1 Bq ms E W (by omega) (a5.below hb) (Fc.below hb)
 obtain⟨M,S,ak⟩:=a5.len;obtain⟨um,uq,P8⟩:=Fc.len;have ad:Hid (∀W,Below w.heap.size w W->zC 288 #[a2,vH] W fun e w'=>e=.returned (.bool (decide (ps=F)))/\Below W.heap.size W w'):=fun W hb=>Db a2 vH ps F W (by omega) (a6.below hb) (Fe.below hb)
 obtain⟨O,T,an⟩:=a6.len;obtain⟨lK,lL,P9⟩:=Fe.len
 have HE:decide (ms=E/\ps=F)=((decide (ms=E))&&(decide (ps=F))):=by
  rw[fW];simp only[nK,ed]
 rw[HE];clear HE;clear a5 Fc;clear a6 Fe;subst ak;subst P8;subst an;subst P9;generalize decide (ms=E)=b0 at*;generalize decide (ps=F)=b1 at*;generalize ms.length=U at*;generalize E.length=uu at*;generalize ps.length=V at*;generalize F.length=lM at*;have t0:=KL (.agg #[.slice um uu uq,.slice lK lM lL]) (w.alloc (.cells #[.slice M U S,.slice O V T] 213));have a4:Below w.heap.size w (w.alloc (.cells #[.slice M U S,.slice O V T] 213)):=(ae _ _).alloc (af _) _;have HB:Hid (Below w.heap.size w ((w.alloc (.cells #[.slice M U S,.slice O V T] 213)).alloc (.cells #[.slice um uu uq,.slice lK lM lL] 213))):=a4.alloc a4.size _
 have HC:Hid (∀W,Below ((w.alloc (.cells #[.slice M U S,.slice O V T] 213)).alloc (.cells #[.slice um uu uq,.slice lK lM lL] 213)).heap.size ((w.alloc (.cells #[.slice M U S,.slice O V T] 213)).alloc (.cells #[.slice um uu uq,.slice lK lM lL] 213)) W->W.cell? ⟨w.heap.size,0,none⟩=some (.slice M U S)/\W.cell? ⟨w.heap.size,1,none⟩=some (.slice O V T)/\W.cell? ⟨w.heap.size+1,0,none⟩=some (.slice um uu uq)/\W.cell? ⟨w.heap.size+1,1,none⟩=some (.slice lK lM lL)):=fun W hb=>by
  refine⟨?_,?_,?_,?_⟩<;>(rw[hb.cell (by simp<;>omega)];simp[go_sem])
 clear a4;go_enter func292,ntmps292;go_upto_region 4 with fail;clear t0;generalize aq:((w.alloc (.cells #[.slice M U S,.slice O V T] 213)).alloc (.cells #[.slice um uu uq,.slice lK lM lL] 213))=G at*;generalize a9:w.heap.size=bx at*;clear aq;obtain⟨x0,x1,y0,y1⟩:=HC.out G (ae _ _);have a3:=zH HB;clear HB
 go_wp2_with (go_at_call 286;fail)
 go_at_call 286;refine(ab.out _ (by have h:=a3.out;exact h)).mono ?_;rintro e v0 ⟨rfl,aa⟩;have a0:Hid (Below bx w v0):=(a3.out).trans (aa.mono (by have h:=(a3.out).size;omega));have a8:=zH aa;obtain⟨Sf,Sg,Si,Sj⟩:=HC.out v0 a8.out;cases b0
 ·go_wp2
  go_ret;exact⟨rfl,by have h:=a0.out;first|exact h|(rw[<-a9] at h;exact h)⟩
 ·go_wp2_with (go_at_call 288;fail)
  go_at_call 288;refine(ad.out _ (by have h:=a0.out;exact h)).mono ?_;rintro e v1 ⟨rfl,au⟩;have a7:Hid (Below bx w v1):=(a0.out).trans (au.mono (by have h:=(a0.out).size;omega));go_wp2;go_ret;exact⟨by simp,by have h:=a7.out;first|exact h|(rw[<-a9] at h;exact h)⟩
theorem Ff(E:Option Addr)(S M:Nat)(F:Option Addr)(T O:Nat)(w:zW):zC 292 #[.agg #[.slice E S M,.slice F T O],.nilIface] w fun e w'=>e=.returned (.bool false)/\Below w.heap.size w w':=by
 have t0:=NA (w.alloc (.cells #[.slice E S M,.slice F T O] 213));have U:Hid (Below w.heap.size w (w.alloc (.cells #[.slice E S M,.slice F T O] 213))):=(ae _ _).alloc (af _) _;go_enter func292,ntmps292;go_wp2;go_ret;exact⟨rfl,U.out⟩
open Classical in
theorem Iz(V Bq:zV)(ms U:List Mo)(a4 vH:zV)(w:zW)(ab:ms.length<=100000)(a2:RdA A Sm.mc w V ms)(Fc:RdA A Sm.mc w Bq U)(aa:∃a n c,a4=.slice a n c)(Sk:∃a n c,vH=.slice a n c):
  zC 285 #[.agg #[V,a4],.iface 89 (.agg #[Bq,vH])] w fun e w'=>e=.returned (.bool (decide (ms=U)))/\Below w.heap.size w w':=by
 have a5:Hid (∀W,Below w.heap.size w W->zC 286 #[V,Bq] W fun e w'=>e=.returned (.bool (decide (ms=U)))/\Below W.heap.size W w'):=fun W hb=>po V Bq ms U W (by omega) (a2.below hb) (Fc.below hb)
 obtain⟨E,M,a6⟩:=a2.len;obtain⟨um,uq,P8⟩:=Fc.len;obtain⟨F,T,O,rfl⟩:=aa;obtain⟨lK,lM,lL,rfl⟩:=Sk;clear a2 Fc;subst a6;subst P8;generalize decide (ms=U)=b0 at*;generalize ms.length=S at*;generalize U.length=uu at*;have t0:=KN (.agg #[.slice um uu uq,.slice lK lM lL]) (w.alloc (.cells #[.slice E S M,.slice F T O] 89));have a1:Below w.heap.size w (w.alloc (.cells #[.slice E S M,.slice F T O] 89)):=(ae _ _).alloc (af _) _;have HB:Hid (Below w.heap.size w ((w.alloc (.cells #[.slice E S M,.slice F T O] 89)).alloc (.cells #[.slice um uu uq,.slice lK lM lL] 89))):=a1.alloc a1.size _
 have HC:Hid (∀W,Below ((w.alloc (.cells #[.slice E S M,.slice F T O] 89)).alloc (.cells #[.slice um uu uq,.slice lK lM lL] 89)).heap.size ((w.alloc (.cells #[.slice E S M,.slice F T O] 89)).alloc (.cells #[.slice um uu uq,.slice lK lM lL] 89)) W->W.cell? ⟨w.heap.size,0,none⟩=some (.slice E S M)/\W.cell? ⟨w.heap.size,1,none⟩=some (.slice F T O)/\W.cell? ⟨w.heap.size+1,0,none⟩=some (.slice um uu uq)/\W.cell? ⟨w.heap.size+1,1,none⟩=some (.slice lK lM lL)):=fun W hb=>by
  refine⟨?_,?_,?_,?_⟩<;>(rw[hb.cell (by simp<;>omega)];simp[go_sem])
 clear a1;go_enter func285,ntmps285;go_upto_region 4 with fail;clear t0;generalize a7:((w.alloc (.cells #[.slice E S M,.slice F T O] 89)).alloc (.cells #[.slice um uu uq,.slice lK lM lL] 89))=G at*;generalize a8:w.heap.size=bx at*;clear a7;obtain⟨x0,x1,y0,y1⟩:=HC.out G (ae _ _);have a0:=zH HB;clear HB
 go_wp2_with (go_at_call 286;fail)
 go_at_call 286;refine(a5.out _ (by have h:=a0.out;exact h)).mono ?_;rintro e v0 ⟨rfl,a9⟩;have a3:Hid (Below bx w v0):=(a0.out).trans (a9.mono (by have h:=(a0.out).size;omega));go_wp2;go_ret;exact⟨by simp,by have h:=a3.out;first|exact h|(rw[<-a8] at h;exact h)⟩
theorem IA(E:Option Addr)(S M:Nat)(F:Option Addr)(T O:Nat)(w:zW):zC 285 #[.agg #[.slice E S M,.slice F T O],.nilIface] w fun e w'=>e=.returned (.bool false)/\Below w.heap.size w w':=by
 have t0:=NB (w.alloc (.cells #[.slice E S M,.slice F T O] 89));have U:Hid (Below w.heap.size w (w.alloc (.cells #[.slice E S M,.slice F T O] 89))):=(ae _ _).alloc (af _) _;go_enter func285,ntmps285;go_wp2;go_ret;exact⟨rfl,U.out⟩
open Classical in
theorem KY(a1 NG:zV)(ns E:List zA)(a2 vH:zV)(ps F:List Pb)(w:zW)(av:ns.length<=100000)(az:ps.length<=100000)(a5:RdA A dB w a1 ns)(a6:RdA A aJ w a2 ps)(G9:RdA A dB w NG E)(Fe:RdA A aJ w vH F):
  zC 287 #[.agg #[a1,a2],.iface 92 (.agg #[NG,vH])] w fun e w'=>e=.returned (.bool (decide (ns=E/\ps=F)))/\Below w.heap.size w w':=by
 have ab:Hid (∀W,Below w.heap.size w W->zC 48 #[a1,NG] W fun e w'=>e=.returned (.bool (decide (ns=E)))/\Below W.heap.size W w'):=fun W hb=>uk a1 NG ns E W (by omega) (a5.below hb) (G9.below hb)
 obtain⟨M,S,ak⟩:=a5.len;obtain⟨IB,IC,Sl⟩:=G9.len;have ad:Hid (∀W,Below w.heap.size w W->zC 288 #[a2,vH] W fun e w'=>e=.returned (.bool (decide (ps=F)))/\Below W.heap.size W w'):=fun W hb=>Db a2 vH ps F W (by omega) (a6.below hb) (Fe.below hb)
 obtain⟨O,T,an⟩:=a6.len;obtain⟨lK,lL,P9⟩:=Fe.len
 have HE:decide (ns=E/\ps=F)=((decide (ns=E))&&(decide (ps=F))):=by
  rw[fW];simp only[nK,ed]
 rw[HE];clear HE;clear a5 G9;clear a6 Fe;subst ak;subst Sl;subst an;subst P9;generalize decide (ns=E)=b0 at*;generalize decide (ps=F)=b1 at*;generalize ns.length=U at*;generalize E.length=IE at*;generalize ps.length=V at*;generalize F.length=lM at*;have t0:=KO (.agg #[.slice IB IE IC,.slice lK lM lL]) (w.alloc (.cells #[.slice M U S,.slice O V T] 92));have a4:Below w.heap.size w (w.alloc (.cells #[.slice M U S,.slice O V T] 92)):=(ae _ _).alloc (af _) _;have HB:Hid (Below w.heap.size w ((w.alloc (.cells #[.slice M U S,.slice O V T] 92)).alloc (.cells #[.slice IB IE IC,.slice lK lM lL] 92))):=a4.alloc a4.size _
 have HC:Hid (∀W,Below ((w.alloc (.cells #[.slice M U S,.slice O V T] 92)).alloc (.cells #[.slice IB IE IC,.slice lK lM lL] 92)).heap.size ((w.alloc (.cells #[.slice M U S,.slice O V T] 92)).alloc (.cells #[.slice IB IE IC,.slice lK lM lL] 92)) W->W.cell? ⟨w.heap.size,0,none⟩=some (.slice M U S)/\W.cell? ⟨w.heap.size,1,none⟩=some (.slice O V T)/\W.cell? ⟨w.heap.size+1,0,none⟩=some (.slice IB IE IC)/\W.cell? ⟨w.heap.size+1,1,none⟩=some (.slice lK lM lL)):=fun W hb=>by
  refine⟨?_,?_,?_,?_⟩<;>(rw[hb.cell (by simp<;>omega)];simp[go_sem])
 clear a4;go_enter func287,ntmps287;go_upto_region 4 with fail;clear t0;generalize aq:((w.alloc (.cells #[.slice M U S,.slice O V T] 92)).alloc (.cells #[.slice IB IE IC,.slice lK lM lL] 92))=G at*;generalize a9:w.heap.size=bx at*;clear aq;obtain⟨x0,x1,y0,y1⟩:=HC.out G (ae _ _);have a3:=zH HB;clear HB
 go_wp2_with (go_at_call 48;fail)
 go_at_call 48;refine(ab.out _ (by have h:=a3.out;exact h)).mono ?_;rintro e v0 ⟨rfl,aa⟩;have a0:Hid (Below bx w v0):=(a3.out).trans (aa.mono (by have h:=(a3.out).size;omega));have a8:=zH aa;obtain⟨Sf,Sg,Si,Sj⟩:=HC.out v0 a8.out;cases b0
 ·go_wp2
  go_ret;exact⟨rfl,by have h:=a0.out;first|exact h|(rw[<-a9] at h;exact h)⟩
 ·go_wp2_with (go_at_call 288;fail)
  go_at_call 288;refine(ad.out _ (by have h:=a0.out;exact h)).mono ?_;rintro e v1 ⟨rfl,au⟩;have a7:Hid (Below bx w v1):=(a0.out).trans (au.mono (by have h:=(a0.out).size;omega));go_wp2;go_ret;exact⟨by simp,by have h:=a7.out;first|exact h|(rw[<-a9] at h;exact h)⟩
theorem KZ(E:Option Addr)(S M:Nat)(F:Option Addr)(T O:Nat)(w:zW):zC 287 #[.agg #[.slice E S M,.slice F T O],.nilIface] w fun e w'=>e=.returned (.bool false)/\Below w.heap.size w w':=by
 have t0:=NC (w.alloc (.cells #[.slice E S M,.slice F T O] 92));have U:Hid (Below w.heap.size w (w.alloc (.cells #[.slice E S M,.slice F T O] 92))):=(ae _ _).alloc (af _) _;go_enter func287,ntmps287;go_wp2;go_ret;exact⟨rfl,U.out⟩
