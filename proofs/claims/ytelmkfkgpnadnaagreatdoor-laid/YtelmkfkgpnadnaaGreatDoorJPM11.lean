import Derived.Test.YtelmkfkgpnadnaaGreatDoorJPME
import Derived.Deep.CutBlock
set_option linter.all false
open Go.Proofs.Tryz
set_option maxRecDepth 100000
set_option maxHeartbeats 2000000
namespace Go.Proofs.YtelmkfkgpnadnaaGreatDoor
open Go.RowKit
namespace Pn
open Mf
variable{A:Nat→Prop}
theorem gj{P:Program}{fn:Func}{p q:Tmp}{ty ty2:TypeId}(h:fn.results=#[.cell p ty,.cell q ty2])(tmps:Array zV)(w:zW)(g g2:Nat)(t t2:TypeId)(cs cs2:Array zV)(fr fr2:Nat×Nat)(d d2:TypeDesc)
  (hp:tmps.getD p undef=.pointer (some ⟨g,0,none⟩)) (hq:tmps.getD q undef=.pointer (some ⟨g2,0,none⟩)) (hg:w.heap[g]?=some (.cells cs t fr)) (hg2:w.heap[g2]?=some (.cells cs2 t2 fr2))
  (hu:P.underlying ty=some d) (hd:(match d with | .struct _ | .array _ _=>true|_=>false)=true) (hi:(P.info? ty).map (·.size)=some cs.size)
  (hu2:P.underlying ty2=some d2) (hd2:(match d2 with | .struct _ | .array _ _=>true|_=>false)=true) (hi2:(P.info? ty2).map (·.size)=some cs2.size):
  (results fn tmps).run P w=.ok (.tuple #[.agg cs,.agg cs2]) w:=by
 have hp':tmps[p]?.getD undef=.pointer (some ⟨g,0,none⟩):=by simpa using hp
 have hq':tmps[q]?.getD undef=.pointer (some ⟨g2,0,none⟩):=by simpa using hq
 simp[results,h,hp',hq',asAddr,run_loadVar_row w g t ty cs fr d hg hu hd hi,run_loadVar_row w g2 t2 ty2 cs2 fr2 d2 hg2 hu2 hd2 hi2]
structure Ch(w:World)(r1 r2:zA)(pr:Nat)(u:zV)(W:World):Prop where
 b:Below w.heap.size w W
 h0:W.heap[w.heap.size]?=some (.cells #[.string r1,.string r2] 29)
 h1:W.heap[w.heap.size+1]?=some (.cells #[.int .i64 (pr:Nat),u] 389)
 h2:W.heap[w.heap.size+2]?=some (.cells #[.string ⟨#[]⟩,.string ⟨#[]⟩] 29)
 h3:W.heap[w.heap.size+3]?=some (.cells #[.int .i64 0,.string ⟨#[]⟩,.string ⟨#[]⟩] 76)
variable{w W W2:zW}{r1 r2:zA}{pr:Nat}{u:zV}
theorem Ch.below(h:Ch w r1 r2 pr u W)(hb:Below W.heap.size W W2):Ch w r1 r2 pr u W2:=
 ⟨h.b.trans (hb.mono h.b.size),(hb.block _ (ai h.h0)).trans h.h0,(hb.block _ (ai h.h1)).trans h.h1,(hb.block _ (ai h.h2)).trans h.h2,(hb.block _ (ai h.h3)).trans h.h3⟩
theorem Ch.new(w:zW)(r1 r2:zA)(pr:Nat)(u:zV):Ch w r1 r2 pr u ((((w.alloc (.cells #[.string r1,.string r2] 29)).alloc (.cells #[.int .i64 (pr:Nat),u] 389)).alloc (.cells #[.string ⟨#[]⟩,.string ⟨#[]⟩] 29)).alloc (.cells #[.int .i64 0,.string ⟨#[]⟩,.string ⟨#[]⟩] 76)):=by
 have b1:Below w.heap.size w (w.alloc (.cells #[.string r1,.string r2] 29)):=(ae _ _).alloc (ag _) _;have b2:=b1.alloc b1.size (.cells #[.int .i64 (pr:Nat),u] 389);have b3:=b2.alloc b2.size (.cells #[.string ⟨#[]⟩,.string ⟨#[]⟩] 29);have b4:=b3.alloc b3.size (.cells #[.int .i64 0,.string ⟨#[]⟩,.string ⟨#[]⟩] 76);have s1:(w.alloc (.cells #[.string r1,.string r2] 29)).heap.size=w.heap.size+1:=by simp
 have s2:((w.alloc (.cells #[.string r1,.string r2] 29)).alloc (.cells #[.int .i64 (pr:Nat),u] 389)).heap.size=w.heap.size+2:=by simp
 have s3:(((w.alloc (.cells #[.string r1,.string r2] 29)).alloc (.cells #[.int .i64 (pr:Nat),u] 389)).alloc (.cells #[.string ⟨#[]⟩,.string ⟨#[]⟩] 29)).heap.size=w.heap.size+3:=by simp
 refine⟨b4,?_,?_,?_,?_⟩
 ·rw[aG _ _ _ (by omega),aG _ _ _ (by omega),aG _ _ _ (by omega)];exact aD _ _
 ·rw[aG _ _ _ (by omega),aG _ _ _ (by omega),←s1];exact aD _ _
 ·rw[aG _ _ _ (by omega),←s2];exact aD _ _
 ·rw[←s3];exact aD _ _
theorem Ch.res(h:Ch w r1 r2 pr u W)(a b c d e:zV):
  (((((W.setCell ⟨w.heap.size+2,0,none⟩ a).setCell ⟨w.heap.size+2,1,none⟩ b).setCell ⟨w.heap.size+3,0,none⟩ c).setCell ⟨w.heap.size+3,1,none⟩ d).setCell ⟨w.heap.size+3,2,none⟩ e).heap[w.heap.size+2]?=some (.cells #[a,b] 29)∧
  (((((W.setCell ⟨w.heap.size+2,0,none⟩ a).setCell ⟨w.heap.size+2,1,none⟩ b).setCell ⟨w.heap.size+3,0,none⟩ c).setCell ⟨w.heap.size+3,1,none⟩ d).setCell ⟨w.heap.size+3,2,none⟩ e).heap[w.heap.size+3]?=some (.cells #[c,d,e] 76)∧
  Below w.heap.size w (((((W.setCell ⟨w.heap.size+2,0,none⟩ a).setCell ⟨w.heap.size+2,1,none⟩ b).setCell ⟨w.heap.size+3,0,none⟩ c).setCell ⟨w.heap.size+3,1,none⟩ d).setCell ⟨w.heap.size+3,2,none⟩ e):=by
 refine⟨?_,E8 (x:=.int .i64 0) (y:=.string ⟨#[]⟩) (z:=.string ⟨#[]⟩) ?_ c d e,((((h.b.setCell (by simp) a).setCell (by simp) b).setCell (by simp) c).setCell (by simp) d).setCell (by simp) e⟩
 ·have hn:∀(o:Nat),w.heap.size+2≠(⟨w.heap.size+3,o,none⟩:Addr).block:=fun o=>by show w.heap.size+2≠w.heap.size+3;omega
  rw[aL _ _ _ _ (hn 2),aL _ _ _ _ (hn 1),aL _ _ _ _ (hn 0)];exact gA h.h2 a b
 ·have hn:∀(o:Nat),w.heap.size+3≠(⟨w.heap.size+2,o,none⟩:Addr).block:=fun o=>by show w.heap.size+3≠w.heap.size+2;omega
  rw[aL _ _ _ _ (hn 1),aL _ _ _ _ (hn 0)];exact h.h3
def vB(rq:Mo)(x:Nat×List zA)(X:List Mo)(m:Mo)(p:Pb):Prop:=
 (choose rq x X=.inl m∧p=(0,e0,e0))∨(choose rq x X=.inr p∧m=(e0,e0)∧p.1≠0)
theorem Ai{v:zA}:∀{l:List zA},v∉l→gL v l=none
 |[],_=>rfl
 |x::r,h=>by
  unfold gL;rw[af (fun e=>h (by rw[e];exact bz ..))];exact Ai (fun hm=>h (cK _ hm))
theorem Aj{v:zA}:∀{l:List zA} {i:Nat},l[i]?=some v→(∀j,j<i→l[j]?≠some v)→gL v l=some (l.drop i)
 |[],_,h,_=>by simp at h
 |x::r,0,h,_=>by
  unfold gL;rw[ah (by simpa using h)];rfl
 |x::r,i+1,h,hn=>by
  unfold gL;rw[af (fun e=>hn 0 (by omega) (by simp[e]))];exact Aj (l:=r) (by simpa using h) (fun j hj e=>hn (j+1) (by omega) (by simpa using e))
theorem Fe{X:List Mo}{p:zA}{l:List zA}{i:Nat}{v:zA}(h:l[i]?=some v):((p,v)∈X→cV X p (l.drop i)=cV X p (l.drop (i+1)))∧((p,v)∉X→cV X p (l.drop i)=some (p,v)):=by
 obtain⟨hi,e⟩:=cq.1 h;have hd:l.drop i=v::l.drop (i+1):=by rw[dt hi,e]
 rw[hd]
 constructor
 ·intro h;rw[cV,ah h]
 ·intro h;rw[cV,af h]
theorem Ff(r1 r2:zA)(pr:Nat)(u xv:zV)(vs:List zA)(X:List Mo)(w:zW)(hl:vs.length≤100000)(hX:X.length≤100000)(hu:RdA A fW w u vs)(hx:RdA A Sm.mc w xv X):
  zC 327 #[.agg #[.string r1,.string r2],.agg #[.int .i64 (pr:Nat),u],xv] w fun e w'=>∃m p,e=.returned (.tuple #[.agg #[.string m.1,.string m.2],.agg #[.int .i64 (p.1:Nat),.string p.2.1,.string p.2.2]])∧vB (r1,r2) (pr,vs) X m p∧Below w.heap.size w w':=by
 have HC0:Hid (Ch w r1 r2 pr u ((((w.alloc (.cells #[.string r1,.string r2] 29)).alloc (.cells #[.int .i64 (pr:Nat),u] 389)).alloc (.cells #[.string ⟨#[]⟩,.string ⟨#[]⟩] 29)).alloc (.cells #[.int .i64 0,.string ⟨#[]⟩,.string ⟨#[]⟩] 76))):=Ch.new w r1 r2 pr u;have KI:Hid (∀W,Below w.heap.size w W→zC 338 #[u,.string r2] W fun e w'=>∃r,e=.returned (.int .i64 r)∧lq vs r2 r∧Below W.heap.size W w'):=fun W hb=>BJ u vs r2 W hl (hu.below hb)
 have KH:Hid (∀W v,Below w.heap.size w W→zC 158 #[xv,.agg #[.string r1,.string v]] W fun e w'=>e=.returned (.bool (@decide ((r1,v)∈X) (Classical.propDecidable _)))∧Below W.heap.size W w'):=fun W v hb=>xX xv X r1 v W hX (hx.below hb)
 obtain⟨ua,uc,e1⟩:=hu.len;obtain⟨xa,xc,e2⟩:=hx.len;subst e1;subst e2;have HU:Hid (RdA A fW w (.slice ua vs.length uc) vs):=hu;clear hu hx;go_enter func327,ntmps327;go_upto_region 1 with fail;generalize (((w.alloc (.cells #[.string r1,.string r2] 29)).alloc (.cells #[.int .i64 (pr:Nat),.slice ua vs.length uc] 389)).alloc (.cells #[.string ⟨#[]⟩,.string ⟨#[]⟩] 29)).alloc (.cells #[.int .i64 0,.string ⟨#[]⟩,.string ⟨#[]⟩] 76)=W1 at*;rw[show w.heap.size+1+1+1=w.heap.size+3 from rfl,show w.heap.size+1+1=w.heap.size+2 from rfl];obtain⟨⟨x0,_⟩,⟨x1,_⟩⟩:=fd2 HC0.out.h0;obtain⟨⟨y0,_⟩,⟨y1,_⟩⟩:=fd2 HC0.out.h1;obtain⟨⟨z0,g0⟩,⟨z1,g1⟩⟩:=fd2 HC0.out.h2;obtain⟨⟨v0,f0⟩,⟨v1,f1⟩,⟨v2,f2⟩⟩:=fd3 HC0.out.h3;by_cases h0:pr=0
 ·subst h0
  clear z0 g0 z1 g1 v0 f0 v1 f1 v2 f2
  go_wp2_with (go_at_call 338;fail)
  go_at_call 338;refine(KI.out W1 HC0.out.b).mono ?_;rintro e w2 ⟨r,rfl,hF,hb2⟩;have HC2:Hid (Ch w r1 r2 0 (.slice ua vs.length uc) w2):=HC0.out.below hb2;clear hb2 HC0 x0 x1 y0 y1 KI;obtain⟨⟨x0,_⟩,⟨x1,_⟩⟩:=fd2 HC2.out.h0;obtain⟨⟨y0,_⟩,⟨y1,_⟩⟩:=fd2 HC2.out.h1;obtain⟨⟨z0,g0⟩,⟨z1,g1⟩⟩:=fd2 HC2.out.h2;obtain⟨⟨v0,f0⟩,⟨v1,f1⟩,⟨v2,f2⟩⟩:=fd3 HC2.out.h3;rcases hF with⟨rfl,hn⟩|⟨i,rfl,hi,hno⟩
  ·have HR:Hid (vB (r1,r2) (0,vs) X (e0,e0) (7,r1,r2)):=Or.inr ⟨by unfold choose;rw[af (by simp),Ai hn],rfl,by show(7:Nat)≠0;decide⟩
   clear hn;go_upto_region 5 with fail
   go_region
   all_goals
    go_wp2;refine aI (gj results327 _ _ (w.heap.size+2) (w.heap.size+3) 29 76 #[.string ⟨#[]⟩,.string ⟨#[]⟩] #[.int .i64 7,.string r1,.string r2] (0,0) (0,0) _ _ rfl rfl (HC2.out.res (.string ⟨#[]⟩) (.string ⟨#[]⟩) (.int .i64 7) (.string r1) (.string r2)).1 (HC2.out.res (.string ⟨#[]⟩) (.string ⟨#[]⟩) (.int .i64 7) (.string r1) (.string r2)).2.1 underlying29 rfl (by kernel_rfl) underlying76 rfl (by kernel_rfl)) rfl ?_;exact⟨(e0,e0),(7,r1,r2),rfl,HR.out,(HC2.out.res (.string ⟨#[]⟩) (.string ⟨#[]⟩) (.int .i64 7) (.string r1) (.string r2)).2.2.drew⟩
  ·have hin:i<vs.length:=(cq.1 hi).1
   have HF:Hid (gL r2 vs=some (vs.drop i)):=Aj hi hno
   have HCh:Hid (∀m p,(cV X r1 (vs.drop i)=some m∧p=(0,e0,e0))∨(cV X r1 (vs.drop i)=none∧m=(e0,e0)∧p=(8,r1,r2))→vB (r1,r2) (0,vs) X m p):=fun m p h=>by
    rcases h with⟨h1,h2⟩|⟨h1,h2,h3⟩
    ·exact Or.inl ⟨by unfold choose;rw[af (by simp)];show(match gL r2 vs with|none=>_|some l=>_)=_;rw[HF.out];show(match cV X r1 (vs.drop i) with|some m=>_|none=>_)=_;rw[h1],h2⟩
    ·exact Or.inr ⟨by unfold choose;rw[af (by simp)];show(match gL r2 vs with|none=>_|some l=>_)=_;rw[HF.out];show(match cV X r1 (vs.drop i) with|some m=>_|none=>_)=_;rw[h1,h3],h2,by rw[h3];show(8:Nat)≠0;decide⟩
   have hro:=HU.out.room
   have FG:Hid (∀wr,Below w.heap.size w wr→∀k,k<vs.length-i→∃(y:zA)(b o:Nat),vs[i+k]?=some y∧ua=some ⟨b,o,none⟩∧wr.cell? ⟨b,o+i+k,none⟩=some (.string y)):=fun wr hb k hk=>by
    obtain⟨b,o,c,eg,hx⟩:=RdA.at (A:=A) (L:=vs) HU.out Dl (by decide) hb (i+k) (by omega);injection eg with eg1 _ _;refine⟨vs[i+k],b,o,aO (by omega),eg1,?_⟩;have:=hx 0 _ rfl;simpa[Nat.add_assoc] using this
   obtain⟨_,ub,uo,_,hua,_⟩:=FG.out w (ae _ _) 0 (by omega);subst hua;clear hi hno HF HU;generalize hn:vs.length=n at*;generalize hM:n-i=M at*;unfold maxLen at hro
   have HFM:Hid (cV X r1 (vs.drop (i+M))=none):=by
    show cV X r1 (vs.drop (i+M))=none;rw[mI (by omega)];rfl
   have HFS:Hid (∀k y,vs[i+k]?=some y→((r1,y)∈X→cV X r1 (vs.drop (i+k))=cV X r1 (vs.drop (i+(k+1))))∧((r1,y)∉X→cV X r1 (vs.drop (i+k))=some (r1,y))):=fun k y h=>Fe h
   generalize hfo:cV X r1 (vs.drop i)=fo at*;have HF0:Hid (cV X r1 (vs.drop i)=fo):=hfo;clear hfo;go_wp2;clear hn hin x0 x1 y0 y1 z0 g0 z1 g1 v0 f0 v1 f1 v2 f2;go_loopg [39] M (fun gg s wr=>∃k:Nat,k≤M∧M-k≤gg∧s=.int .i64 k∧Hid (Ch w r1 r2 0 (.slice (some ⟨ub,uo,none⟩) n uc) wr)∧Hid (cV X r1 (vs.drop (i+k))=fo))
   case atStart=>exact⟨0,by omega,by omega,rfl,HC2,HF0⟩
   case round=>
    obtain⟨k,hk,hg,rfl,HCk,HFk⟩:=hrel;clear HC2 HF0;by_cases hlt:k<M
    ·obtain⟨y,b,o,hy,e3,c0⟩:=FG.out wr HCk.out.b k hlt
     injection e3 with e4;injection e4 with e5 e6;subst e5;subst e6;have hkI:(k:Int)<(M:Int):=by omega
     obtain⟨⟨x0,_⟩,⟨x1,_⟩⟩:=fd2 HCk.out.h0;obtain⟨QY,QZ⟩:=HFS.out k y hy;have HYes:Hid ((r1,y)∈X→cV X r1 (vs.drop (i+(k+1)))=fo):=fun h=>by rw[←HFk.out];exact(QY h).symm
     have HNot:Hid ((r1,y)∉X→some (r1,y)=fo):=fun h=>by rw[←HFk.out];exact(QZ h).symm
     clear QY QZ hy HFk
     go_wp2_with (go_at_call 158;fail)
     have hbA:Below wr.heap.size wr (wr.alloc (.cells #[.string r1,.string y] 29)):=(ae _ _).alloc (ag _) _;have HCa:Hid (Ch w r1 r2 0 (.slice (some ⟨ub,uo,none⟩) n uc) (wr.alloc (.cells #[.string r1,.string y] 29))):=HCk.out.below hbA;have HNw:Hid ((wr.alloc (.cells #[.string r1,.string y] 29)).heap[wr.heap.size]?=some (.cells #[.string r1,.string y] 29)):=aD _ _;clear hbA HCk x0 x1 c0;generalize wr.alloc (.cells #[.string r1,.string y] 29)=Wa at*;generalize wr.heap.size=gb at*;go_at_call 158;refine(KH.out Wa y HCa.out.b).mono ?_;rintro e w3 ⟨rfl,hb3⟩;have HC3:Hid (Ch w r1 r2 0 (.slice (some ⟨ub,uo,none⟩) n uc) w3):=HCa.out.below hb3;have HN3:Hid (w3.heap[gb]?=some (.cells #[.string r1,.string y] 29)):=(hb3.block _ (ai HNw.out)).trans HNw.out;clear hb3 HCa HNw;by_cases hm:(r1,y)∈X
     ·have HFn:Hid (cV X r1 (vs.drop (i+(k+1)))=fo):=HYes.out hm
      rw[@cT _ (Classical.propDecidable _) hm];clear hm HYes HNot;go_wp2;go_roundg (M-(k+1))
      case measure=>omega
      case rel=>exact⟨k+1,by omega,by omega,by go_num,HC3,HFn⟩
     ·have hfo:=HNot.out hm
      subst hfo;rw[@bK _ (Classical.propDecidable _) hm];have HR:Hid (vB (r1,r2) (0,vs) X (r1,y) (0,e0,e0)):=HCh.out _ _ (Or.inl ⟨rfl,rfl⟩);clear hm HYes HNot HCh HFM HFS;obtain⟨⟨n0,_⟩,⟨n1,_⟩⟩:=fd2 HN3.out;obtain⟨⟨z0,g0⟩,⟨z1,g1⟩⟩:=fd2 HC3.out.h2;obtain⟨⟨v0,f0⟩,⟨v1,f1⟩,⟨v2,f2⟩⟩:=fd3 HC3.out.h3;go_wp2;refine aI (gj results327 _ _ (w.heap.size+2) (w.heap.size+3) 29 76 #[.string r1,.string y] #[.int .i64 0,.string ⟨#[]⟩,.string ⟨#[]⟩] (0,0) (0,0) _ _ rfl rfl (HC3.out.res (.string r1) (.string y) (.int .i64 0) (.string ⟨#[]⟩) (.string ⟨#[]⟩)).1 (HC3.out.res (.string r1) (.string y) (.int .i64 0) (.string ⟨#[]⟩) (.string ⟨#[]⟩)).2.1 underlying29 rfl (by kernel_rfl) underlying76 rfl (by kernel_rfl)) rfl ?_
      first
       |exact⟨(r1,y),(0,e0,e0),rfl,HR.out,(HC3.out.res (.string r1) (.string y) (.int .i64 0) (.string ⟨#[]⟩) (.string ⟨#[]⟩)).2.2⟩
       |exact⟨r1,y,0,e0,e0,rfl,HR.out,(HC3.out.res (.string r1) (.string y) (.int .i64 0) (.string ⟨#[]⟩) (.string ⟨#[]⟩)).2.2⟩
    ·have hkI:((k:Int)<(M:Int))=False:=by simp;omega
     have hfo:fo=none:=by rw[←HFk.out,show k=M by omega];exact HFM.out
     subst hfo;have HR:Hid (vB (r1,r2) (0,vs) X (e0,e0) (8,r1,r2)):=HCh.out _ _ (Or.inr ⟨rfl,rfl,rfl⟩);obtain⟨⟨x0,_⟩,⟨x1,_⟩⟩:=fd2 HCk.out.h0;obtain⟨⟨z0,g0⟩,⟨z1,g1⟩⟩:=fd2 HCk.out.h2;obtain⟨⟨v0,f0⟩,⟨v1,f1⟩,⟨v2,f2⟩⟩:=fd3 HCk.out.h3;go_upto_region 13 with fail
     go_region
     all_goals
      go_wp2;refine aI (gj results327 _ _ (w.heap.size+2) (w.heap.size+3) 29 76 #[.string ⟨#[]⟩,.string ⟨#[]⟩] #[.int .i64 8,.string r1,.string r2] (0,0) (0,0) _ _ rfl rfl (HCk.out.res (.string ⟨#[]⟩) (.string ⟨#[]⟩) (.int .i64 8) (.string r1) (.string r2)).1 (HCk.out.res (.string ⟨#[]⟩) (.string ⟨#[]⟩) (.int .i64 8) (.string r1) (.string r2)).2.1 underlying29 rfl (by kernel_rfl) underlying76 rfl (by kernel_rfl)) rfl ?_
      first
       |exact⟨(e0,e0),(8,r1,r2),rfl,HR.out,(HCk.out.res (.string ⟨#[]⟩) (.string ⟨#[]⟩) (.int .i64 8) (.string r1) (.string r2)).2.2.drew⟩
       |exact⟨e0,e0,8,r1,r2,rfl,HR.out,(HCk.out.res (.string ⟨#[]⟩) (.string ⟨#[]⟩) (.int .i64 8) (.string r1) (.string r2)).2.2.drew⟩
 ·have q0:(((pr:Nat):Int)==0)=false:=int_ne (b:=0) h0
  have HR:Hid (vB (r1,r2) (pr,vs) X (e0,e0) (pr,r1,e0)):=Or.inr ⟨by unfold choose;rw[ah h0],rfl,h0⟩;go_upto_region 2 with fail
  go_region
  all_goals
   go_wp2;refine aI (gj results327 _ _ (w.heap.size+2) (w.heap.size+3) 29 76 #[.string ⟨#[]⟩,.string ⟨#[]⟩] #[.int .i64 (pr:Nat),.string r1,.string ⟨#[]⟩] (0,0) (0,0) _ _ rfl rfl (HC0.out.res (.string ⟨#[]⟩) (.string ⟨#[]⟩) (.int .i64 (pr:Nat)) (.string r1) (.string ⟨#[]⟩)).1 (HC0.out.res (.string ⟨#[]⟩) (.string ⟨#[]⟩) (.int .i64 (pr:Nat)) (.string r1) (.string ⟨#[]⟩)).2.1 underlying29 rfl (by kernel_rfl) underlying76 rfl (by kernel_rfl)) rfl ?_;exact⟨(e0,e0),(pr,r1,e0),rfl,HR.out,(HC0.out.res (.string ⟨#[]⟩) (.string ⟨#[]⟩) (.int .i64 (pr:Nat)) (.string r1) (.string ⟨#[]⟩)).2.2.drew⟩
