import Derived.Test.YtelmkfkgpnadnaaGreatDoorKLKB
set_option linter.all false
open Go.Proofs.Tryz
set_option maxRecDepth 100000
set_option maxHeartbeats 4000000
namespace Go.Proofs.YtelmkfkgpnadnaaGreatDoor
open Go.RowKit
namespace Lk
open Mf Ed Rn
open Pn (aD e0 jT ah)
def aQ(f:Nat→Int):Array Value:=#[.int .i64 (f 0),.int .i64 (f 1),.int .i64 (f 2),.int .i64 (f 3),.int .i64 (f 4),.int .i64 (f 5),.int .i64 (f 6)]
def J8(f:Nat→Int)(p:Nat)(x:Int)(q:Nat):Int:=if q=p then x else f q
theorem rX{W:World}{b:Nat}{t:TypeId}{f:Nat→Int}(h:W.heap[b]?=some (.cells (aQ f) t)){p:Nat}(hp:p<7):W.cell? ⟨b,p,none⟩=some (.int .i64 (f p))∧W.frozen? ⟨b,p,none⟩=false:=by
 refine⟨?_,?_⟩
 ·simp only[World.cell?,h]
  rcases(by omega:p=0∨p=1∨p=2∨p=3∨p=4∨p=5∨p=6) with e|e|e|e|e|e|e<;>rw[e]<;>rfl
 ·simp only[World.frozen?,h];simp
theorem zY{W:World}{b:Nat}{t:TypeId}{f:Nat→Int}(h:W.heap[b]?=some (.cells (aQ f) t)){p:Nat}(hp:p<7)(x:Int):(W.setCell ⟨b,p,none⟩ (.int .i64 x)).heap[b]?=some (.cells (aQ (J8 f p x)) t):=by
 simp only[World.setCell,h,mQ]
 rcases(by omega:p=0∨p=1∨p=2∨p=3∨p=4∨p=5∨p=6) with e|e|e|e|e|e|e<;>rw[e]<;>simp[aQ,J8]
def fC(l:List Nat)(q:Nat):Int:=match l.find? (fun c=>c/4==q) with
 |some c=>((c%4:Nat):Int)
 |none=>-1
theorem J9:((List.range 29).all fun a=>(List.range 29).all fun b=>Go.Op.bytesLess (aD a).1.toList (aD b).1.toList==decide (a/4<b/4))=true:=by kernel_rfl
theorem GR{a b:Nat}(ha:a≤28)(hb:b≤28):Go.Op.bytesLess (aD a).1.toList (aD b).1.toList=decide (a/4<b/4):=by
 have h:=gw.1 J9 a (gy.2 (by omega))
 have h:=gw.1 h b (gy.2 (by omega))
 exact eq_of_beq h
structure Bl(cds:List Nat):Prop where
 up:cds.Pairwise fun a b=>a/4<b/4
 le:∀c∈cds,c≤28
 root:28∈cds
theorem Bl.len{cds:List Nat}(h:Bl cds):cds.length≤29:=Pn.Db (h.up.imp (fun hab e=>by rw[e] at hab;exact Nat.lt_irrefl _ hab)) h.le
theorem Ka{cds:List Nat}(h:Bl cds){i:Nat}(hi:i<cds.length):(cds[i]=28→∀q,q<7→fC (cds.take (i+1)) q=fC (cds.take i) q)∧(cds[i]<28→fC (cds.take i) (cds[i]/4)=-1∧∀q,fC (cds.take (i+1)) q=J8 (fC (cds.take i)) (cds[i]/4) ((cds[i]%4:Nat):Int) q):=by
 have ht:cds.take (i+1)=cds.take i++[cds[i]]:=by rw[oD,bg hi];rfl
 have hlt:∀c∈cds.take i,c/4<cds[i]/4:=fun c hc=>by
  obtain⟨j,hj,e⟩:=List.mem_iff_getElem.1 hc
  rw[jZ] at hj
  rw[List.getElem_take] at e
  have:=ig.1 h.up j i (by omega) hi (by omega)
  omega
 have hno:(cds.take i).find? (fun c=>c/4==cds[i]/4)=none:=mW.2 (fun c hc=>by have:=hlt c hc;simp;omega)
 refine⟨fun e q hq=>?_,fun e=>⟨?_,fun q=>?_⟩⟩
 ·unfold fC
  rw[ht,List.find?_append]
  have:([cds[i]].find? (fun c=>c/4==q))=none:=mW.2 (fun c hc=>by rw[bL.1 hc,e];simp;omega)
  rw[this,Option.or_none]
 ·unfold fC;rw[hno]
 ·unfold fC J8
  rw[ht,List.find?_append]
  by_cases hq:q=cds[i]/4
  ·rw[ai hq,hq,hno]
   simp
  ·rw[af hq]
   have:([cds[i]].find? (fun c=>c/4==q))=none:=mW.2 (fun c hc=>by rw[bL.1 hc];simp;omega)
   rw[this,Option.or_none]
theorem jf{f g:Nat→Int}(h:∀q,q<7→f q=g q):aQ f=aQ g:=by
 unfold aQ
 rw[h 0 (by decide),h 1 (by decide),h 2 (by decide),h 3 (by decide),h 4 (by decide),h 5 (by decide),h 6 (by decide)]
def iP(cds:List Nat)(i:Nat):Nat:=(cds.take i).countP (·==28)
theorem count_one:∀(l:List Nat),l.Nodup→28∈l→l.countP (·==28)=1
 |[],_,h=>absurd h cW
 |x::r,hn,h=>by
  have h1:=List.nodup_cons.1 hn
  rw[List.countP_cons]
  by_cases e:x=28
  ·have h0:r.countP (·==28)=0:=List.countP_eq_zero.2 (fun y hy=>by
    have:y≠28:=fun k=>h1.1 (by rw[e,←k];exact hy)
    simpa using this)
   rw[h0,ai (by simpa using e)]
  ·rw[count_one r h1.2 ((aY.1 h).resolve_left (fun k=>e k.symm)),af (by simpa using e)]
theorem GU{cds:List Nat}(h:Bl cds):iP cds cds.length=1:=by
 unfold iP
 rw[ng]
 have hn:cds.Nodup:=h.up.imp (fun hab e=>by rw[e] at hab;exact Nat.lt_irrefl _ hab)
 exact count_one cds hn h.root
theorem D9{cds:List Nat}{i:Nat}(hi:i<cds.length):iP cds (i+1)=iP cds i+(if cds[i]=28 then 1 else 0):=by
 unfold iP
 rw[oD,bg hi,List.countP_append]
 simp[List.countP_cons]
theorem Kb(cds:List Nat)(i:Nat):iP cds i≤cds.length:=by
 unfold iP
 exact aO List.countP_le_length (by rw[jZ];omega)
theorem Qd{c:Nat}(hc:c≤28):((aD c).1.toList==(⟨#[114]⟩:ByteArray).toList)=(c==28):=by
 have hr:(⟨#[114]⟩:ByteArray)=(aD 28).1:=rfl
 by_cases e:c=28
 ·rw[e,hr];simp
 ·rw[hr,dn (fun k=>e (by have:=(jT hc (ag _)).1 k;omega))]
  simp[e]
theorem fd7{W:World}{b:Nat}{t:TypeId}{f:Nat→Int}(h:W.heap[b]?=some (.cells (aQ f) t)):
  ((W.cell? ⟨b,0,none⟩=some (.int .i64 (f 0))∧W.frozen? ⟨b,0,none⟩=false)∧(W.cell? ⟨b,1,none⟩=some (.int .i64 (f 1))∧W.frozen? ⟨b,1,none⟩=false)∧(W.cell? ⟨b,2,none⟩=some (.int .i64 (f 2))∧W.frozen? ⟨b,2,none⟩=false)∧(W.cell? ⟨b,3,none⟩=some (.int .i64 (f 3))∧W.frozen? ⟨b,3,none⟩=false))∧
  (W.cell? ⟨b,4,none⟩=some (.int .i64 (f 4))∧W.frozen? ⟨b,4,none⟩=false)∧(W.cell? ⟨b,5,none⟩=some (.int .i64 (f 5))∧W.frozen? ⟨b,5,none⟩=false)∧(W.cell? ⟨b,6,none⟩=some (.int .i64 (f 6))∧W.frozen? ⟨b,6,none⟩=false):=
 ⟨⟨rX h (by decide),rX h (by decide),rX h (by decide),rX h (by decide)⟩,rX h (by decide),rX h (by decide),rX h (by decide)⟩
theorem OD{W:World}{b:Nat}{t:TypeId}{f:Nat→Int}(h:W.heap[b]?=some (.cells (aQ f) t))(g:Nat→Int):
  (((((((W.setCell ⟨b,0,none⟩ (.int .i64 (g 0))).setCell ⟨b,1,none⟩ (.int .i64 (g 1))).setCell ⟨b,2,none⟩ (.int .i64 (g 2))).setCell ⟨b,3,none⟩ (.int .i64 (g 3))).setCell ⟨b,4,none⟩ (.int .i64 (g 4))).setCell ⟨b,5,none⟩ (.int .i64 (g 5))).setCell ⟨b,6,none⟩ (.int .i64 (g 6))).heap[b]?=some (.cells (aQ g) t):=by
 have h0:=zY h (p:=0) (by decide) (g 0)
 have h1:=zY h0 (p:=1) (by decide) (g 1)
 have h2:=zY h1 (p:=2) (by decide) (g 2)
 have h3:=zY h2 (p:=3) (by decide) (g 3)
 have h4:=zY h3 (p:=4) (by decide) (g 4)
 have h5:=zY h4 (p:=5) (by decide) (g 5)
 have h6:=zY h5 (p:=6) (by decide) (g 6)
 exact h6
theorem tF{P:Program}{fn:Func}{p q:Tmp}{ty:TypeId}(h:fn.results=#[.cell p ty,.tmp q])(tmps:Array Value)(w:World)(g:Nat)(t:TypeId)(cs:Array Value)(fr:Nat×Nat)(d:TypeDesc)
  (hp:tmps.getD p undef=.pointer (some ⟨g,0,none⟩)) (hg:w.heap[g]?=some (.cells cs t fr))
  (hu:P.underlying ty=some d) (hd:(match d with | .struct _ | .array _ _=>true|_=>false)=true) (hi:(P.info? ty).map (·.size)=some cs.size):
  (results fn tmps).run P w=.ok (.tuple #[.agg cs,tmps.getD q undef]) w:=by
 have hp':tmps[p]?.getD undef=.pointer (some ⟨g,0,none⟩):=by simpa using hp
 simp[results,h,hp',asAddr,run_loadVar_row w g t ty cs fr d hg hu hd hi]
theorem rY(v:Value)(cds:List Nat)(hB:Bl cds)(w:World)(h:Sm.Rd w v (cds.map aD)):
  Calls prog 29 #[v] w fun e w'=>e=.returned (.tuple #[.agg (aQ (fC cds)),.bool true])∧Below w.heap.size w w':=by
 obtain⟨a1,c1,e1⟩:=Im h
 subst e1
 rw[bz] at h ⊢
 have HD:Hid (Sm.Rd w (.slice a1 cds.length c1) (cds.map aD)):=h
 have HB:Hid (Bl cds):=hB
 have hl:=hB.len
 clear h hB
 obtain⟨n,hn⟩:∃n,n=cds.length:=⟨_,rfl⟩
 rw[←hn] at HD hl ⊢
 have HN:Hid (n=cds.length):=hn
 clear hn
 have HQ:Hid _:=Pn.zV w (.cells (aQ (fun _=>0)) 60) (.cells (aQ (fun _=>0)) 60)
 go_enter func29,ntmps29
 go_wp2
 go_loopg [5] 7 (fun gg iv wr=>∃i:Nat,i≤7∧7-i≤gg∧iv=.int .i64 i∧Hid (Below w.heap.size w wr∧wr.heap[w.heap.size]?=some (.cells (aQ (fun _=>0)) 60)∧wr.heap[w.heap.size+1]?=some (.cells (aQ (fun q=>if q<i then -1 else 0)) 60)))
 case atStart=>exact⟨0,by omega,by omega,rfl,HQ⟩
 case round=>
  obtain⟨i,hi,hg,rfl,HS⟩:=hrel
  by_cases hlt:i<7
  ·have fQ:(i:Int)<7:=by omega
   obtain⟨x0,x1⟩:=rX HS.out.2.2 hlt
   have HT:Hid (aj (fun b=>b=w.heap.size+1) wr (wr.setCell ⟨w.heap.size+1,i,none⟩ (.int .i64 (-1)))):=(aj.refl (fun b=>b=w.heap.size+1) wr).set (a:=⟨w.heap.size+1,i,none⟩) (fun _=>rfl) _
   have HS2:Hid (Below w.heap.size w (wr.setCell ⟨w.heap.size+1,i,none⟩ (.int .i64 (-1)))∧(wr.setCell ⟨w.heap.size+1,i,none⟩ (.int .i64 (-1))).heap[w.heap.size]?=some (.cells (aQ (fun _=>0)) 60)∧(wr.setCell ⟨w.heap.size+1,i,none⟩ (.int .i64 (-1))).heap[w.heap.size+1]?=some (.cells (aQ (fun q=>if q<i+1 then -1 else 0)) 60)):=by
    refine⟨Pn.aP HS.out.1 HT.out (fun b e=>by omega),(HT.out.block w.heap.size (ah HS.out.2.1) (by omega)).trans HS.out.2.1,?_⟩
    rw[zY HS.out.2.2 hlt,jf (fun q _=>?_)]
    show(if q=i then -1 else (if q<i then -1 else 0))=(if q<i+1 then (-1:Int) else 0)
    by_cases e:q=i
    ·rw[ai e,ai (by omega)]
    ·rw[af e]
     by_cases e2:q<i
     ·rw[ai e2,ai (by omega)]
     ·rw[af e2,af (by omega)]
   clear HT
   go_wp2
   go_roundg (7-(i+1))
   case measure=>omega
   case rel=>exact⟨i+1,by omega,by omega,by go_num,HS2⟩
  ·have fQ:¬(i:Int)<7:=by omega
   have HS3:Hid (Below w.heap.size w wr∧wr.heap[w.heap.size]?=some (.cells (aQ (fun _=>0)) 60)∧wr.heap[w.heap.size+1]?=some (.cells (aQ (fC (cds.take 0))) 60)):=by
    refine⟨HS.out.1,HS.out.2.1,?_⟩
    rw[HS.out.2.2,jf (fun q hq=>?_)]
    rw[ai (by omega)]
    rfl
   clear HS
   go_wp2
   go_loopg [6,7] n (fun gg rv iv wr=>∃i:Nat,i≤n∧n-i≤gg∧iv=.int .i64 i∧rv=.int .i64 (iP cds i)∧Hid (Below w.heap.size w wr∧wr.heap[w.heap.size]?=some (.cells (aQ (fun _=>0)) 60)∧wr.heap[w.heap.size+1]?=some (.cells (aQ (fC (cds.take i))) 60)))
   case atStart=>exact⟨0,by omega,by omega,rfl,rfl,HS3⟩
   case round=>
    obtain⟨j,hj,hgj,rfl,rfl,HS⟩:=hrel
    by_cases hlj:j<n
    ·have RG:(j:Int)<(n:Int):=by omega
     have HC:Hid (∃(b o:Nat)(c:Nat),a1=some ⟨b,o,none⟩∧c≤28∧cds[j]?=some c∧(∀W,Below w.heap.size w W→W.cell? ⟨b,o+j*2,none⟩=some (.string (aD c).1)∧W.cell? ⟨b,o+j*2+1,none⟩=some (.string (aD c).2))∧∀k,j=k+1→∃x,wr.cell? ⟨b,o+k*2,none⟩=some (.string x)∧Go.Op.bytesLess (aD c).1.toList x.toList=false∧((aD c).1.toList==x.toList)=false):=by
      have hjl:j<cds.length:=by have:=HN.out;omega
      have hlen:(cds.map aD).length=n:=by rw[bz];exact HN.out.symm
      obtain⟨b,o,cc,eg,_,_⟩:=kE HD.out HS.out.1 j (by omega)
      injection eg with eg1 _ _
      have em:∀i (h:i<cds.length),(cds.map aD)[i]! =aD cds[i]:=fun i h=>by rw[bD _ i (by rw[bz];exact h),nh]
      have rd:∀W,Below w.heap.size w W→∀k (h:k<cds.length),W.cell? ⟨b,o+k*2,none⟩=some (.string (aD cds[k]).1)∧W.cell? ⟨b,o+k*2+1,none⟩=some (.string (aD cds[k]).2):=fun W hW k hk=>by
       obtain⟨b2,o2,cc2,eg2,y0,y1⟩:=kE HD.out hW k (by rw[bz];exact hk)
       injection eg2 with rZ _ _
       rw[eg1] at rZ
       injection rZ with rZ
       injection rZ with e1 e2 _
       rw[em k hk,←e1,←e2] at y0 y1
       exact⟨y0,y1⟩
      refine⟨b,o,cds[j],eg1,HB.out.le _ (cH hjl),bg hjl,fun W hW=>rd W hW j hjl,fun k hk=>⟨_,(rd wr HS.out.1 k (by omega)).1,?_,?_⟩⟩
      ·rw[GR (HB.out.le _ (cH _)) (HB.out.le _ (cH _))]
       exact bI (by have:=ig.1 HB.out.up k j (by omega) hjl (by omega);omega)
      ·refine dn (fun e=>?_)
       have:=(jT (HB.out.le _ (cH _)) (HB.out.le _ (cH _))).1 e
       have:=ig.1 HB.out.up k j (by omega) hjl (by omega)
       omega
     obtain⟨b,o,c,rfl,zZ,hcj,hcell,xj⟩:=HC.out
     have HCe:Hid (∀W,Below w.heap.size w W→W.cell? ⟨b,o+j*2,none⟩=some (.string (aD c).1)∧W.cell? ⟨b,o+j*2+1,none⟩=some (.string (aD c).2)):=hcell
     obtain⟨x0,x1⟩:=hcell wr HS.out.1
     have HDr:Hid (∀k,Below w.heap.size w (wr.drewN k)):=fun k=>⟨HS.out.1.os,HS.out.1.tape,HS.out.1.output,HS.out.1.size,HS.out.1.block⟩
     have hjl:j<cds.length:=by have:=HN.out;omega
     have ecj:cds[j]=c:=by rw[bg hjl] at hcj;injection hcj
     have HSt:Hid ((cds[j]=28→∀q,q<7→fC (cds.take (j+1)) q=fC (cds.take j) q)∧(cds[j]<28→fC (cds.take j) (cds[j]/4)=-1∧∀q,fC (cds.take (j+1)) q=J8 (fC (cds.take j)) (cds[j]/4) ((cds[j]%4:Nat):Int) q)):=Ka HB.out hjl
     have HRt:Hid (iP cds (j+1)=iP cds j+(if cds[j]=28 then 1 else 0)):=D9 hjl
     have hrb:=Kb cds j
     have SE:iP cds j≤29:=by have:=HN.out;omega
     simp only[ecj] at HSt HRt
     clear HC hcell hcj ecj hrb hjl
     by_cases hc:c=28
     ·have em:aD c=(⟨#[114]⟩,⟨#[]⟩):=by rw[hc];rfl
      rw[em] at x0 x1 xj
      have HN2:Hid (iP cds (j+1)=iP cds j+1):=by
       have:=HRt.out
       rw[ai hc] at this
       exact this
      have HS5:Hid (∀k,Below w.heap.size w (wr.drewN k)∧(wr.drewN k).heap[w.heap.size]?=some (.cells (aQ (fun _=>0)) 60)∧(wr.drewN k).heap[w.heap.size+1]?=some (.cells (aQ (fC (cds.take (j+1)))) 60)):=fun k=>by
       refine⟨HDr.out k,HS.out.2.1,?_⟩
       rw[jf (HSt.out.1 hc)]
       exact HS.out.2.2
      clear HRt HSt HCe HDr HS hc zZ em
      rcases Nat.eq_zero_or_pos j with hj0|hj0
      ·subst hj0
       simp only[Nat.zero_mul,Nat.add_zero] at x0 x1
       clear xj
       go_upto_region 10 with fail
       go_quiet (fail)
       go_wp2
       go_roundg (n-1)
       case measure=>omega
       case rel=>exact⟨1,by omega,by omega,by go_num,by have:=HN2.out;rw[this];go_num,HS5.out _⟩
      ·obtain⟨k,rfl⟩:∃k,j=k+1:=⟨j-1,by omega⟩
       obtain⟨y,y0,hless,Kc⟩:=xj k rfl
       have Qe:(⟨#[114]⟩:ByteArray).toList=[114]:=by rw[dW]
       simp only[Qe] at hless Kc
       clear Qe
       have hk0:(0:Int)<((k+1:Nat):Int):=by omega
       clear xj
       go_upto_region 10 with fail
       go_quiet (fail)
       go_wp2
       go_roundg (n-(k+1+1))
       case measure=>omega
       case rel=>exact⟨k+1+1,by omega,by omega,by go_num,by have:=HN2.out;rw[this];go_num,HS5.out _⟩
     ·have hc3:c<28:=by omega
      have hp7:c/4<7:=by omega
      have hv4:c%4<4:=by omega
      have q1:((aD c).1.toList==[114])=false:=by
       have:=Qd zZ
       simp only[gJ.2 hc] at this
       rw[←this]
       simp[dW]
      have em:aD c=(ba (pW (c/4)),ba (vW (c%4))):=af hc
      have k35:Hid (∀W,Below wr.heap.size wr W→Calls prog 35 #[.string (aD c).1] W fun e w'=>e=.returned (.int .i64 ((c/4:Nat):Int))∧Below wr.heap.size wr w'):=fun W hW=>by
       rw[em]
       exact(qx _ _ W (IA hp7)).mono (fun e w' ⟨g1,g2⟩=>⟨g1,hW.trans (g2.mono hW.size)⟩)
      have k61:Hid (∀W,Calls prog 61 #[.string (aD c).2] W fun e w'=>e=.returned (.int .i64 ((c%4:Nat):Int))∧w'=W):=fun W=>by
       rw[em]
       exact sV _ _ W (IB hv4)
      have HN2:Hid (iP cds (j+1)=iP cds j):=by
       have:=HRt.out
       rw[af hc] at this
       exact this
      have HDw:Hid (∀k,Below wr.heap.size wr (wr.drewN k)):=fun k=>⟨rfl,rfl,rfl,ag _,fun _ _=>rfl⟩
      have HSW:Hid (∀W,Below wr.heap.size wr W→(Below w.heap.size w W∧W.heap[w.heap.size+1]?=some (.cells (aQ (fC (cds.take j))) 60))∧(W.cell? ⟨w.heap.size+1,c/4,none⟩=some (.int .i64 (-1))∧W.frozen? ⟨w.heap.size+1,c/4,none⟩=false)∧Below w.heap.size w (W.setCell ⟨w.heap.size+1,c/4,none⟩ (.int .i64 ((c%4:Nat):Int)))∧(W.setCell ⟨w.heap.size+1,c/4,none⟩ (.int .i64 ((c%4:Nat):Int))).heap[w.heap.size]?=some (.cells (aQ (fun _=>0)) 60)∧(W.setCell ⟨w.heap.size+1,c/4,none⟩ (.int .i64 ((c%4:Nat):Int))).heap[w.heap.size+1]?=some (.cells (aQ (fC (cds.take (j+1)))) 60)):=fun W hW=>by
       have b1:=HS.out.1.trans (hW.mono HS.out.1.size)
       have g0:=(hW.block w.heap.size (ah HS.out.2.1)).trans HS.out.2.1
       have g1:=(hW.block (w.heap.size+1) (ah HS.out.2.2)).trans HS.out.2.2
       have hT:aj (fun b=>b=w.heap.size+1) W (W.setCell ⟨w.heap.size+1,c/4,none⟩ (.int .i64 ((c%4:Nat):Int))):=(aj.refl (fun b=>b=w.heap.size+1) W).set (a:=⟨w.heap.size+1,c/4,none⟩) (fun _=>rfl) _
       have g2:=rX g1 hp7
       rw[(HSt.out.2 hc3).1] at g2
       refine⟨⟨b1,g1⟩,g2,Pn.aP b1 hT (fun b e=>by omega),(hT.block w.heap.size (ah g0) (by omega)).trans g0,?_⟩
       rw[zY g1 hp7,jf (fun q _=>((HSt.out.2 hc3).2 q).symm)]
      have hpI:¬((c/4:Nat):Int)<0:=by omega
      have hvI:¬((c%4:Nat):Int)<0:=by omega
      have Qf:((c/4:Nat):Int)<7:=by omega
      clear HRt HSt HDr HS hc zZ hc3 em hv4
      generalize (aD c).1=X1 at*
      generalize (aD c).2=X2 at*
      generalize c/4=p at*
      generalize c%4=vv at*
      rcases Nat.eq_zero_or_pos j with hj0|hj0
      ·subst hj0
       simp only[Nat.zero_mul,Nat.add_zero] at x0 x1 HCe
       clear xj
       go_upto_region 10 with fail
       go_quiet (fail)
       go_wp2_with (go_at_call 35;refine(k35.out _ (HDw.out _)).mono ?_;rintro e w1 ⟨rfl,hb1⟩;obtain⟨hg1,⟨hg2,hg3⟩,hg4⟩:=HSW.out _ hb1;have HG:Hid _:=hg4;clear hg4;obtain⟨_,x1'⟩:=HCe.out w1 hg1.1)
       go_wp2_with (go_at_call 61;refine(k61.out _).mono ?_;rintro e w2 ⟨rfl,rfl⟩)
       go_roundg (n-1)
       case measure=>omega
       case rel=>exact⟨1,by omega,by omega,by go_num,by have:=HN2.out;rw[this],HG.out⟩
      ·obtain⟨k,rfl⟩:∃k,j=k+1:=⟨j-1,by omega⟩
       obtain⟨y,y0,hless,Kc⟩:=xj k rfl
       have hk0:(0:Int)<((k+1:Nat):Int):=by omega
       clear xj
       go_upto_region 10 with fail
       go_quiet (fail)
       go_wp2_with (go_at_call 35;refine(k35.out _ (HDw.out _)).mono ?_;rintro e w1 ⟨rfl,hb1⟩;obtain⟨hg1,⟨hg2,hg3⟩,hg4⟩:=HSW.out _ hb1;have HG:Hid _:=hg4;clear hg4;obtain⟨_,x1'⟩:=HCe.out w1 hg1.1)
       go_wp2_with (go_at_call 61;refine(k61.out _).mono ?_;rintro e w2 ⟨rfl,rfl⟩)
       go_roundg (n-(k+1+1))
       case measure=>omega
       case rel=>exact⟨k+1+1,by omega,by omega,by go_num,by have:=HN2.out;rw[this],HG.out⟩
    ·have RG:¬(j:Int)<(n:Int):=by omega
     have HE:Hid (iP cds j=1∧cds.take j=cds):=by
      have e:j=cds.length:=by have:=HN.out;omega
      rw[e]
      exact⟨GU HB.out,ng⟩
     have hr1:iP cds j=1:=HE.out.1
     rw[hr1]
     have HS4:Hid (Below w.heap.size w wr∧wr.heap[w.heap.size]?=some (.cells (aQ (fun _=>0)) 60)∧wr.heap[w.heap.size+1]?=some (.cells (aQ (fC cds)) 60)):=by
      have:=HS.out
      rw[HE.out.2] at this
      exact this
     clear HS HE hr1
     obtain⟨⟨⟨y0,_⟩,⟨y1,_⟩,⟨y2,_⟩,⟨y3,_⟩⟩,⟨y4,_⟩,⟨y5,_⟩,⟨y6,_⟩⟩:=fd7 HS4.out.2.2
     obtain⟨⟨⟨z0,q0⟩,⟨z1,q1⟩,⟨z2,q2⟩,⟨z3,q3⟩⟩,⟨z4,q4⟩,⟨z5,q5⟩,⟨z6,q6⟩⟩:=fd7 HS4.out.2.1
     go_wp2
     refine aJ (tF results29 _ _ w.heap.size 60 _ (0,0) _ rfl (OD HS4.out.2.1 (fC cds)) underlying60 rfl (by kernel_rfl)) rfl ?_
     refine⟨rfl,Pn.aP HS4.out.1 (p:=fun b=>b=w.heap.size) ?_ (fun b e=>by omega)⟩
     exact((((((((aj.refl (fun b=>b=w.heap.size) wr).set (a:=⟨w.heap.size,0,none⟩) (fun _=>rfl) _).set (a:=⟨w.heap.size,1,none⟩) (fun _=>rfl) _).set (a:=⟨w.heap.size,2,none⟩) (fun _=>rfl) _).set (a:=⟨w.heap.size,3,none⟩) (fun _=>rfl) _).set (a:=⟨w.heap.size,4,none⟩) (fun _=>rfl) _).set (a:=⟨w.heap.size,5,none⟩) (fun _=>rfl) _).set (a:=⟨w.heap.size,6,none⟩) (fun _=>rfl) _)
