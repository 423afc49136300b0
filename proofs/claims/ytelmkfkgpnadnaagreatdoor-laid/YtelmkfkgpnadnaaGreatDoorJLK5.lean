import Derived.Test.YtelmkfkgpnadnaaGreatDoorJLKB
set_option linter.all false
open Go.Proofs.Tryz
set_option maxRecDepth 100000
set_option maxHeartbeats 4000000
namespace Go.Proofs.YtelmkfkgpnadnaaGreatDoor
open Go.RowKit
namespace Lk
open Mf Ed Rn
open Pn (aA e0 gi ai)
def bo(f:Nat→Int):Array zV:=#[zI (f 0),zI (f 1),zI (f 2),zI (f 3),zI (f 4),zI (f 5),zI (f 6)]
def Jb(f:Nat→Int)(p:Nat)(x:Int)(q:Nat):Int:=if q=p then x else f q
theorem nK{W:zW}{b:Nat}{t:TypeId}{f:Nat→Int}(h:W.heap[b]?=some (.cells (bo f) t)){p:Nat}(hp:p<7):W.cell? ⟨b,p,none⟩=some (zI (f p))∧W.frozen? ⟨b,p,none⟩=false:=by
 refine⟨?_,?_⟩
 ·simp only[World.cell?,h]
  rcases(by omega:p=0∨p=1∨p=2∨p=3∨p=4∨p=5∨p=6) with e|e|e|e|e|e|e<;>rw[e]<;>rfl
 ·simp only[World.frozen?,h];simp
theorem zn{W:zW}{b:Nat}{t:TypeId}{f:Nat→Int}(h:W.heap[b]?=some (.cells (bo f) t)){p:Nat}(hp:p<7)(x:Int):(W.setCell ⟨b,p,none⟩ (zI x)).heap[b]?=some (.cells (bo (Jb f p x)) t):=by
 simp only[World.setCell,h,ox]
 rcases(by omega:p=0∨p=1∨p=2∨p=3∨p=4∨p=5∨p=6) with e|e|e|e|e|e|e<;>rw[e]<;>simp[bo,Jb]
def eB(l:List Nat)(q:Nat):Int:=match l.find? (fun c=>c/4==q) with
 |some c=>((c%4:Nat):Int)
 |none=>-1
theorem Mg:((List.range 29).all fun a=>(List.range 29).all fun b=>Go.Op.bytesLess (aA a).1.toList (aA b).1.toList==decide (a/4<b/4))=true:=by kernel_rfl
theorem Jc{a b:Nat}(ha:a≤28)(hb:b≤28):Go.Op.bytesLess (aA a).1.toList (aA b).1.toList=decide (a/4<b/4):=by
 have h:=gJ.1 Mg a (cH.2 (by omega))
 have h:=gJ.1 h b (cH.2 (by omega))
 exact eq_of_beq h
structure Bl(cds:List Nat):Prop where
 up:cds.Pairwise fun a b=>a/4<b/4
 le:∀c∈cds,c≤28
 root:28∈cds
theorem Bl.len{cds:List Nat}(h:Bl cds):cds.length≤29:=Pn.ET (h.up.imp (fun hab e=>by rw[e] at hab;exact Nat.lt_irrefl _ hab)) h.le
theorem Mh{cds:List Nat}(h:Bl cds){i:Nat}(hi:i<cds.length):(cds[i]=28→∀q,q<7→eB (cds.take (i+1)) q=eB (cds.take i) q)∧(cds[i]<28→eB (cds.take i) (cds[i]/4)=-1∧∀q,eB (cds.take (i+1)) q=Jb (eB (cds.take i)) (cds[i]/4) ((cds[i]%4:Nat):Int) q):=by
 have ht:cds.take (i+1)=cds.take i++[cds[i]]:=by rw[jB,aO hi];rfl
 have hlt:∀c∈cds.take i,c/4<cds[i]/4:=fun c hc=>by
  obtain⟨j,hj,e⟩:=List.mem_iff_getElem.1 hc
  rw[jP] at hj
  rw[List.getElem_take] at e
  have:=fA.1 h.up j i (by omega) hi (by omega)
  omega
 have hno:(cds.take i).find? (fun c=>c/4==cds[i]/4)=none:=lH.2 (fun c hc=>by have:=hlt c hc;simp;omega)
 refine⟨fun e q hq=>?_,fun e=>⟨?_,fun q=>?_⟩⟩
 ·unfold eB
  rw[ht,List.find?_append]
  have:([cds[i]].find? (fun c=>c/4==q))=none:=lH.2 (fun c hc=>by rw[bQ.1 hc,e];simp;omega)
  rw[this,Option.or_none]
 ·unfold eB;rw[hno]
 ·unfold eB Jb
  rw[ht,List.find?_append]
  by_cases hq:q=cds[i]/4
  ·rw[ah hq,hq,hno]
   simp
  ·rw[af hq]
   have:([cds[i]].find? (fun c=>c/4==q))=none:=lH.2 (fun c hc=>by rw[bQ.1 hc];simp;omega)
   rw[this,Option.or_none]
theorem fL{f g:Nat→Int}(h:∀q,q<7→f q=g q):bo f=bo g:=by
 unfold bo
 rw[h 0 (by decide),h 1 (by decide),h 2 (by decide),h 3 (by decide),h 4 (by decide),h 5 (by decide),h 6 (by decide)]
def ji(cds:List Nat)(i:Nat):Nat:=(cds.take i).countP (·==28)
theorem count_one:∀(l:List Nat),l.Nodup→28∈l→l.countP (·==28)=1
 |[],_,h=>absurd h di
 |x::r,hn,h=>by
  have h1:=List.nodup_cons.1 hn
  rw[List.countP_cons]
  by_cases e:x=28
  ·have h0:r.countP (·==28)=0:=List.countP_eq_zero.2 (fun y hy=>by
    have:y≠28:=fun k=>h1.1 (by rw[e,←k];exact hy)
    simpa using this)
   rw[h0,ah (by simpa using e)]
  ·rw[count_one r h1.2 ((aV.1 h).resolve_left (fun k=>e k.symm)),af (by simpa using e)]
theorem Jd{cds:List Nat}(h:Bl cds):ji cds cds.length=1:=by
 unfold ji
 rw[lJ]
 have hn:cds.Nodup:=h.up.imp (fun hab e=>by rw[e] at hab;exact Nat.lt_irrefl _ hab)
 exact count_one cds hn h.root
theorem FD{cds:List Nat}{i:Nat}(hi:i<cds.length):ji cds (i+1)=ji cds i+(if cds[i]=28 then 1 else 0):=by
 unfold ji
 rw[jB,aO hi,List.countP_append]
 simp[List.countP_cons]
theorem Mi(cds:List Nat)(i:Nat):ji cds i≤cds.length:=by
 unfold ji
 exact aP List.countP_le_length (by rw[jP];omega)
theorem OC{c:Nat}(hc:c≤28):((aA c).1.toList==(⟨#[114]⟩:zA).toList)=(c==28):=by
 have hr:(⟨#[114]⟩:zA)=(aA 28).1:=rfl
 by_cases e:c=28
 ·rw[e,hr];simp
 ·rw[hr,dr (fun k=>e (by have:=(gi hc (ag _)).1 k;omega))]
  simp[e]
theorem fd7{W:zW}{b:Nat}{t:TypeId}{f:Nat→Int}(h:W.heap[b]?=some (.cells (bo f) t)):
  ((W.cell? ⟨b,0,none⟩=some (zI (f 0))∧W.frozen? ⟨b,0,none⟩=false)∧(W.cell? ⟨b,1,none⟩=some (zI (f 1))∧W.frozen? ⟨b,1,none⟩=false)∧(W.cell? ⟨b,2,none⟩=some (zI (f 2))∧W.frozen? ⟨b,2,none⟩=false)∧(W.cell? ⟨b,3,none⟩=some (zI (f 3))∧W.frozen? ⟨b,3,none⟩=false))∧
  (W.cell? ⟨b,4,none⟩=some (zI (f 4))∧W.frozen? ⟨b,4,none⟩=false)∧(W.cell? ⟨b,5,none⟩=some (zI (f 5))∧W.frozen? ⟨b,5,none⟩=false)∧(W.cell? ⟨b,6,none⟩=some (zI (f 6))∧W.frozen? ⟨b,6,none⟩=false):=
 ⟨⟨nK h (by decide),nK h (by decide),nK h (by decide),nK h (by decide)⟩,nK h (by decide),nK h (by decide),nK h (by decide)⟩
theorem Ql{W:zW}{b:Nat}{t:TypeId}{f:Nat→Int}(h:W.heap[b]?=some (.cells (bo f) t))(g:Nat→Int):
  (((((((W.setCell ⟨b,0,none⟩ (zI (g 0))).setCell ⟨b,1,none⟩ (zI (g 1))).setCell ⟨b,2,none⟩ (zI (g 2))).setCell ⟨b,3,none⟩ (zI (g 3))).setCell ⟨b,4,none⟩ (zI (g 4))).setCell ⟨b,5,none⟩ (zI (g 5))).setCell ⟨b,6,none⟩ (zI (g 6))).heap[b]?=some (.cells (bo g) t):=by
 have h0:=zn h (p:=0) (by decide) (g 0)
 have h1:=zn h0 (p:=1) (by decide) (g 1)
 have h2:=zn h1 (p:=2) (by decide) (g 2)
 have h3:=zn h2 (p:=3) (by decide) (g 3)
 have h4:=zn h3 (p:=4) (by decide) (g 4)
 have h5:=zn h4 (p:=5) (by decide) (g 5)
 have h6:=zn h5 (p:=6) (by decide) (g 6)
 exact h6
theorem uN{P:Program}{fn:Func}{p q:Tmp}{ty:TypeId}(h:fn.results=#[.cell p ty,.tmp q])(tmps:Array zV)(w:zW)(g:Nat)(t:TypeId)(cs:Array zV)(fr:Nat×Nat)(d:TypeDesc)
  (hp:tmps.getD p undef=zP g) (hg:w.heap[g]?=some (.cells cs t fr))
  (hu:P.underlying ty=some d) (hd:(match d with | .struct _ | .array _ _=>true|_=>false)=true) (hi:(P.info? ty).map (·.size)=some cs.size):
  (results fn tmps).run P w=.ok (.tuple #[.agg cs,tmps.getD q undef]) w:=by
 have hp':tmps[p]?.getD undef=zP g:=by simpa using hp
 simp[results,h,hp',asAddr,run_loadVar_row w g t ty cs fr d hg hu hd hi]
theorem BX(v:zV)(cds:List Nat)(hB:Bl cds)(w:zW)(h:Sm.Rd w v (cds.map aA)):
  zC 29 #[v] w fun e w'=>e=.returned (.tuple #[.agg (bo (eB cds)),.bool true])∧zB w w':=by
 obtain⟨a1,c1,e1⟩:=Kj h
 subst e1
 rw[bE] at h ⊢
 have HD:Hid (Sm.Rd w (.slice a1 cds.length c1) (cds.map aA)):=h
 have HB:Hid (Bl cds):=hB
 have hl:=hB.len
 clear h hB
 obtain⟨n,hn⟩:∃n,n=cds.length:=⟨_,rfl⟩
 rw[←hn] at HD hl ⊢
 have HN:Hid (n=cds.length):=hn
 clear hn
 have HQ:Hid _:=Pn.yE w (.cells (bo (fun _=>0)) 60) (.cells (bo (fun _=>0)) 60)
 go_enter func29,ntmps29
 go_wp2
 go_loopg [5] 7 (fun gg iv wr=>∃i:Nat,i≤7∧7-i≤gg∧iv=zI i∧Hid (zB w wr∧wr.heap[w.heap.size]?=some (.cells (bo (fun _=>0)) 60)∧wr.heap[w.heap.size+1]?=some (.cells (bo (fun q=>if q<i then -1 else 0)) 60)))
 case atStart=>exact⟨0,by omega,by omega,rfl,HQ⟩
 case round=>
  obtain⟨i,hi,hg,rfl,HS⟩:=hrel
  by_cases hlt:i<7
  ·have gN:(i:Int)<7:=by omega
   obtain⟨x0,x1⟩:=nK HS.out.2.2 hlt
   have HT:Hid (aj (fun b=>b=w.heap.size+1) wr (wr.setCell ⟨w.heap.size+1,i,none⟩ (zI (-1)))):=(aj.refl (fun b=>b=w.heap.size+1) wr).set (a:=⟨w.heap.size+1,i,none⟩) (fun _=>rfl) _
   have HS2:Hid (zB w (wr.setCell ⟨w.heap.size+1,i,none⟩ (zI (-1)))∧(wr.setCell ⟨w.heap.size+1,i,none⟩ (zI (-1))).heap[w.heap.size]?=some (.cells (bo (fun _=>0)) 60)∧(wr.setCell ⟨w.heap.size+1,i,none⟩ (zI (-1))).heap[w.heap.size+1]?=some (.cells (bo (fun q=>if q<i+1 then -1 else 0)) 60)):=by
    refine⟨Pn.bh HS.out.1 HT.out (fun b e=>by omega),(HT.out.block w.heap.size (ai HS.out.2.1) (by omega)).trans HS.out.2.1,?_⟩
    rw[zn HS.out.2.2 hlt,fL (fun q _=>?_)]
    show(if q=i then -1 else (if q<i then -1 else 0))=(if q<i+1 then (-1:Int) else 0)
    by_cases e:q=i
    ·rw[ah e,ah (by omega)]
    ·rw[af e]
     by_cases e2:q<i
     ·rw[ah e2,ah (by omega)]
     ·rw[af e2,af (by omega)]
   clear HT
   go_wp2
   go_roundg (7-(i+1))
   case measure=>omega
   case rel=>exact⟨i+1,by omega,by omega,by go_num,HS2⟩
  ·have gN:¬(i:Int)<7:=by omega
   have HS3:Hid (zB w wr∧wr.heap[w.heap.size]?=some (.cells (bo (fun _=>0)) 60)∧wr.heap[w.heap.size+1]?=some (.cells (bo (eB (cds.take 0))) 60)):=by
    refine⟨HS.out.1,HS.out.2.1,?_⟩
    rw[HS.out.2.2,fL (fun q hq=>?_)]
    rw[ah (by omega)]
    rfl
   clear HS
   go_wp2
   go_loopg [6,7] n (fun gg rv iv wr=>∃i:Nat,i≤n∧n-i≤gg∧iv=zI i∧rv=zI (ji cds i)∧Hid (zB w wr∧wr.heap[w.heap.size]?=some (.cells (bo (fun _=>0)) 60)∧wr.heap[w.heap.size+1]?=some (.cells (bo (eB (cds.take i))) 60)))
   case atStart=>exact⟨0,by omega,by omega,rfl,rfl,HS3⟩
   case round=>
    obtain⟨j,hj,hgj,rfl,rfl,HS⟩:=hrel
    by_cases hlj:j<n
    ·have Mj:(j:Int)<(n:Int):=by omega
     have HC:Hid (∃(b o:Nat)(c:Nat),a1=some ⟨b,o,none⟩∧c≤28∧cds[j]?=some c∧(∀W,zB w W→W.cell? ⟨b,o+j*2,none⟩=some (.string (aA c).1)∧W.cell? ⟨b,o+j*2+1,none⟩=some (.string (aA c).2))∧∀k,j=k+1→∃x,wr.cell? ⟨b,o+k*2,none⟩=some (.string x)∧Go.Op.bytesLess (aA c).1.toList x.toList=false∧((aA c).1.toList==x.toList)=false):=by
      have hjl:j<cds.length:=by have:=HN.out;omega
      have hlen:(cds.map aA).length=n:=by rw[bE];exact HN.out.symm
      obtain⟨b,o,cc,eg,_,_⟩:=pz HD.out HS.out.1 j (by omega)
      injection eg with eg1 _ _
      have em:∀i (h:i<cds.length),(cds.map aA)[i]! =aA cds[i]:=fun i h=>by rw[bC _ i (by rw[bE];exact h),jR]
      have rd:∀W,zB w W→∀k (h:k<cds.length),W.cell? ⟨b,o+k*2,none⟩=some (.string (aA cds[k]).1)∧W.cell? ⟨b,o+k*2+1,none⟩=some (.string (aA cds[k]).2):=fun W hW k hk=>by
       obtain⟨b2,o2,cc2,eg2,y0,y1⟩:=pz HD.out hW k (by rw[bE];exact hk)
       injection eg2 with BZ _ _
       rw[eg1] at BZ
       injection BZ with BZ
       injection BZ with e1 e2 _
       rw[em k hk,←e1,←e2] at y0 y1
       exact⟨y0,y1⟩
      refine⟨b,o,cds[j],eg1,HB.out.le _ (bL hjl),aO hjl,fun W hW=>rd W hW j hjl,fun k hk=>⟨_,(rd wr HS.out.1 k (by omega)).1,?_,?_⟩⟩
      ·rw[Jc (HB.out.le _ (bL _)) (HB.out.le _ (bL _))]
       exact bK (by have:=fA.1 HB.out.up k j (by omega) hjl (by omega);omega)
      ·refine dr (fun e=>?_)
       have:=(gi (HB.out.le _ (bL _)) (HB.out.le _ (bL _))).1 e
       have:=fA.1 HB.out.up k j (by omega) hjl (by omega)
       omega
     obtain⟨b,o,c,rfl,nL,hcj,hcell,yG⟩:=HC.out
     have HCe:Hid (∀W,zB w W→W.cell? ⟨b,o+j*2,none⟩=some (.string (aA c).1)∧W.cell? ⟨b,o+j*2+1,none⟩=some (.string (aA c).2)):=hcell
     obtain⟨x0,x1⟩:=hcell wr HS.out.1
     have HDr:Hid (∀k,zB w (wr.drewN k)):=fun k=>⟨HS.out.1.os,HS.out.1.tape,HS.out.1.output,HS.out.1.size,HS.out.1.block⟩
     have hjl:j<cds.length:=by have:=HN.out;omega
     have ecj:cds[j]=c:=by rw[aO hjl] at hcj;injection hcj
     have HSt:Hid ((cds[j]=28→∀q,q<7→eB (cds.take (j+1)) q=eB (cds.take j) q)∧(cds[j]<28→eB (cds.take j) (cds[j]/4)=-1∧∀q,eB (cds.take (j+1)) q=Jb (eB (cds.take j)) (cds[j]/4) ((cds[j]%4:Nat):Int) q)):=Mh HB.out hjl
     have HRt:Hid (ji cds (j+1)=ji cds j+(if cds[j]=28 then 1 else 0)):=FD hjl
     have hrb:=Mi cds j
     have TH:ji cds j≤29:=by have:=HN.out;omega
     simp only[ecj] at HSt HRt
     clear HC hcell hcj ecj hrb hjl
     by_cases hc:c=28
     ·have em:aA c=(⟨#[114]⟩,⟨#[]⟩):=by rw[hc];rfl
      rw[em] at x0 x1 yG
      have HN2:Hid (ji cds (j+1)=ji cds j+1):=by
       have:=HRt.out
       rw[ah hc] at this
       exact this
      have HS5:Hid (∀k,zB w (wr.drewN k)∧(wr.drewN k).heap[w.heap.size]?=some (.cells (bo (fun _=>0)) 60)∧(wr.drewN k).heap[w.heap.size+1]?=some (.cells (bo (eB (cds.take (j+1)))) 60)):=fun k=>by
       refine⟨HDr.out k,HS.out.2.1,?_⟩
       rw[fL (HSt.out.1 hc)]
       exact HS.out.2.2
      clear HRt HSt HCe HDr HS hc nL em
      rcases Nat.eq_zero_or_pos j with hj0|hj0
      ·subst hj0
       simp only[Nat.zero_mul,Nat.add_zero] at x0 x1
       clear yG
       go_upto_region 10 with fail
       go_quiet (fail)
       go_wp2
       go_roundg (n-1)
       case measure=>omega
       case rel=>exact⟨1,by omega,by omega,by go_num,by have:=HN2.out;rw[this];go_num,HS5.out _⟩
      ·obtain⟨k,rfl⟩:∃k,j=k+1:=⟨j-1,by omega⟩
       obtain⟨y,y0,hless,Mm⟩:=yG k rfl
       have Rq:(⟨#[114]⟩:zA).toList=[114]:=by rw[dV]
       simp only[Rq] at hless Mm
       clear Rq
       have hk0:(0:Int)<((k+1:Nat):Int):=by omega
       clear yG
       go_upto_region 10 with fail
       go_quiet (fail)
       go_wp2
       go_roundg (n-(k+1+1))
       case measure=>omega
       case rel=>exact⟨k+1+1,by omega,by omega,by go_num,by have:=HN2.out;rw[this];go_num,HS5.out _⟩
     ·have hc3:c<28:=by omega
      have hp7:c/4<7:=by omega
      have hv4:c%4<4:=by omega
      have q1:((aA c).1.toList==[114])=false:=by
       have:=OC nL
       simp only[eH.2 hc] at this
       rw[←this]
       simp[dV]
      have em:aA c=(ba (pW (c/4)),ba (vW (c%4))):=af hc
      have k35:Hid (∀W,zB wr W→zC 35 #[.string (aA c).1] W fun e w'=>e=.returned (zI ((c/4:Nat):Int))∧zB wr w'):=fun W hW=>by
       rw[em]
       exact(ku _ _ W (Gf hp7)).mono (fun e w' ⟨g1,g2⟩=>⟨g1,hW.trans (g2.mono hW.size)⟩)
      have k61:Hid (∀W,zC 61 #[.string (aA c).2] W fun e w'=>e=.returned (zI ((c%4:Nat):Int))∧w'=W):=fun W=>by
       rw[em]
       exact Hw _ _ W (QR hv4)
      have HN2:Hid (ji cds (j+1)=ji cds j):=by
       have:=HRt.out
       rw[af hc] at this
       exact this
      have HDw:Hid (∀k,zB wr (wr.drewN k)):=fun k=>⟨rfl,rfl,rfl,ag _,fun _ _=>rfl⟩
      have HSW:Hid (∀W,zB wr W→(zB w W∧W.heap[w.heap.size+1]?=some (.cells (bo (eB (cds.take j))) 60))∧(W.cell? ⟨w.heap.size+1,c/4,none⟩=some (zI (-1))∧W.frozen? ⟨w.heap.size+1,c/4,none⟩=false)∧zB w (W.setCell ⟨w.heap.size+1,c/4,none⟩ (zI ((c%4:Nat):Int)))∧(W.setCell ⟨w.heap.size+1,c/4,none⟩ (zI ((c%4:Nat):Int))).heap[w.heap.size]?=some (.cells (bo (fun _=>0)) 60)∧(W.setCell ⟨w.heap.size+1,c/4,none⟩ (zI ((c%4:Nat):Int))).heap[w.heap.size+1]?=some (.cells (bo (eB (cds.take (j+1)))) 60)):=fun W hW=>by
       have b1:=HS.out.1.trans (hW.mono HS.out.1.size)
       have g0:=(hW.block w.heap.size (ai HS.out.2.1)).trans HS.out.2.1
       have g1:=(hW.block (w.heap.size+1) (ai HS.out.2.2)).trans HS.out.2.2
       have hT:aj (fun b=>b=w.heap.size+1) W (W.setCell ⟨w.heap.size+1,c/4,none⟩ (zI ((c%4:Nat):Int))):=(aj.refl (fun b=>b=w.heap.size+1) W).set (a:=⟨w.heap.size+1,c/4,none⟩) (fun _=>rfl) _
       have g2:=nK g1 hp7
       rw[(HSt.out.2 hc3).1] at g2
       refine⟨⟨b1,g1⟩,g2,Pn.bh b1 hT (fun b e=>by omega),(hT.block w.heap.size (ai g0) (by omega)).trans g0,?_⟩
       rw[zn g1 hp7,fL (fun q _=>((HSt.out.2 hc3).2 q).symm)]
      have hpI:¬((c/4:Nat):Int)<0:=by omega
      have hvI:¬((c%4:Nat):Int)<0:=by omega
      have Rt:((c/4:Nat):Int)<7:=by omega
      clear HRt HSt HDr HS hc nL hc3 em hv4
      generalize (aA c).1=X1 at*
      generalize (aA c).2=X2 at*
      generalize c/4=p at*
      generalize c%4=vv at*
      rcases Nat.eq_zero_or_pos j with hj0|hj0
      ·subst hj0
       simp only[Nat.zero_mul,Nat.add_zero] at x0 x1 HCe
       clear yG
       go_upto_region 10 with fail
       go_quiet (fail)
       go_wp2_with (go_at_call 35;refine(k35.out _ (HDw.out _)).mono ?_;rintro e w1 ⟨rfl,hb1⟩;obtain⟨hg1,⟨hg2,hg3⟩,hg4⟩:=HSW.out _ hb1;have HG:Hid _:=hg4;clear hg4;obtain⟨_,x1'⟩:=HCe.out w1 hg1.1)
       go_wp2_with (go_at_call 61;refine(k61.out _).mono ?_;rintro e w2 ⟨rfl,rfl⟩)
       go_roundg (n-1)
       case measure=>omega
       case rel=>exact⟨1,by omega,by omega,by go_num,by have:=HN2.out;rw[this],HG.out⟩
      ·obtain⟨k,rfl⟩:∃k,j=k+1:=⟨j-1,by omega⟩
       obtain⟨y,y0,hless,Mm⟩:=yG k rfl
       have hk0:(0:Int)<((k+1:Nat):Int):=by omega
       clear yG
       go_upto_region 10 with fail
       go_quiet (fail)
       go_wp2_with (go_at_call 35;refine(k35.out _ (HDw.out _)).mono ?_;rintro e w1 ⟨rfl,hb1⟩;obtain⟨hg1,⟨hg2,hg3⟩,hg4⟩:=HSW.out _ hb1;have HG:Hid _:=hg4;clear hg4;obtain⟨_,x1'⟩:=HCe.out w1 hg1.1)
       go_wp2_with (go_at_call 61;refine(k61.out _).mono ?_;rintro e w2 ⟨rfl,rfl⟩)
       go_roundg (n-(k+1+1))
       case measure=>omega
       case rel=>exact⟨k+1+1,by omega,by omega,by go_num,by have:=HN2.out;rw[this],HG.out⟩
    ·have Mj:¬(j:Int)<(n:Int):=by omega
     have HE:Hid (ji cds j=1∧cds.take j=cds):=by
      have e:j=cds.length:=by have:=HN.out;omega
      rw[e]
      exact⟨Jd HB.out,lJ⟩
     have hr1:ji cds j=1:=HE.out.1
     rw[hr1]
     have HS4:Hid (zB w wr∧wr.heap[w.heap.size]?=some (.cells (bo (fun _=>0)) 60)∧wr.heap[w.heap.size+1]?=some (.cells (bo (eB cds)) 60)):=by
      have:=HS.out
      rw[HE.out.2] at this
      exact this
     clear HS HE hr1
     obtain⟨⟨⟨y0,_⟩,⟨y1,_⟩,⟨y2,_⟩,⟨y3,_⟩⟩,⟨y4,_⟩,⟨y5,_⟩,⟨y6,_⟩⟩:=fd7 HS4.out.2.2
     obtain⟨⟨⟨z0,q0⟩,⟨z1,q1⟩,⟨z2,q2⟩,⟨z3,q3⟩⟩,⟨z4,q4⟩,⟨z5,q5⟩,⟨z6,q6⟩⟩:=fd7 HS4.out.2.1
     go_wp2
     refine aI (uN results29 _ _ w.heap.size 60 _ (0,0) _ rfl (Ql HS4.out.2.1 (eB cds)) underlying60 rfl (by kernel_rfl)) rfl ?_
     refine⟨rfl,Pn.bh HS4.out.1 (p:=fun b=>b=w.heap.size) ?_ (fun b e=>by omega)⟩
     exact((((((((aj.refl (fun b=>b=w.heap.size) wr).set (a:=⟨w.heap.size,0,none⟩) (fun _=>rfl) _).set (a:=⟨w.heap.size,1,none⟩) (fun _=>rfl) _).set (a:=⟨w.heap.size,2,none⟩) (fun _=>rfl) _).set (a:=⟨w.heap.size,3,none⟩) (fun _=>rfl) _).set (a:=⟨w.heap.size,4,none⟩) (fun _=>rfl) _).set (a:=⟨w.heap.size,5,none⟩) (fun _=>rfl) _).set (a:=⟨w.heap.size,6,none⟩) (fun _=>rfl) _)
