import Derived.Test.YtooabooekgphpaaGreatDoorKQA
set_option linter.all false
open Go.Proofs.Tryz
set_option maxRecDepth 100000
set_option maxHeartbeats 4000000
namespace Go.Proofs.YtooabooekgphpaaGreatDoor
section
open Go.RowKit
variable{w w':zW}
def bC(p v:zA):Int:=if Pv.aH p.data.toList=false then 2 else if v.size≠0/\(Pv.parse v.data.toList).isSome=false then 3 else 0
theorem EE{v:zV}{D:List zA}(h:kO w v D):∃E n k,v=.slice E n k:=by
 rcases h with⟨_,h⟩|⟨b,c,h,_⟩
 ·exact⟨_,_,_,h⟩
 ·exact⟨_,_,_,h⟩
theorem qG(v:zA):(v.toList==[])=decide (v.size=0):=by
 rw[eB,bO];cases v.data.toList<;>simp
theorem nt(p v:zA)(w:zW)(hm:Ml w)(hp:p.size<4294967281):
  zC 52 #[.string p,.string v] w fun e w'=>e=.returned (.int .i64 (bC p v))/\Below w.heap.size w w':=by
 have k1:=ji p w hm hp
 have S:∀W,Below w.heap.size w W->zC 67 #[.string v] W fun e w'=>∃(i0 i1 i2:Int)(ad:Option Addr)(n k:Nat),e=.returned (.tuple #[.agg #[.int .i64 i0,.int .i64 i1,.int .i64 i2,.slice ad n k],.bool (Pv.parse v.data.toList).isSome])/\Below W.heap.size W w':=fun W hb=>by
  cases hv:Pv.parse v.data.toList with
  |none=>
   refine(parseVersion_none v W (hm.below hb) hv).mono ?_;rintro e w' ⟨rfl,h⟩;exact⟨_,_,_,_,_,_,rfl,h⟩
  |some y=>
   obtain⟨_,_,_,_,_,_,_,k⟩:=parseVersion_some v W (hm.below hb) y hv;refine k.mono ?_;rintro e w' ⟨sl,rfl,h,hs⟩;obtain⟨ad,n,k,rfl⟩:=EE hs;exact⟨_,_,_,_,_,_,rfl,h⟩
 have E:Hid (bC p v=if Pv.aH p.data.toList=false then 2 else if v.size≠0/\(Pv.parse v.data.toList).isSome=false then 3 else 0):=rfl;have he:=qG v;clear hm;generalize bC p v=r at*;generalize Pv.aH p.data.toList=a at*;generalize (Pv.parse v.data.toList).isSome=b at*;go_enter func52,ntmps52
 go_wp2_with (go_at_call 50;fail)
 go_at_call 50;refine k1.mono ?_;rintro e1 w1 ⟨rfl,D⟩;clear k1;have S:=S w1 D;cases a
 ·have F:Hid (2=r):=by rw[E.out];rfl
  clear E he S;go_wp2;go_ret;exact⟨fp F.out,D⟩
 ·go_wp2_with (go_at_call 67;fail)
  go_at_call 67;refine S.mono ?_;rintro e2 w2 ⟨i0,i1,i2,ad,nn,kk,rfl,O⟩;have M:=zH (D.trans (O.mono D.size));clear S D O;by_cases h0:v.size=0
  ·have F:Hid (0=r):=by show 0=r;rw[E.out,ag (by decide),ag (fun h=>h.1 h0)]
   rw[bj h0] at he;clear E;cases b
   all_goals
    go_wp2;go_ret;exact⟨fp F.out,M.out.alloc M.out.size _⟩
  ·rw[aQ h0] at he
   cases b
   ·have F:Hid (3=r):=by show 3=r;rw[E.out,ag (by decide),aj ⟨h0,rfl⟩]
    clear E;go_wp2;go_ret;exact⟨fp F.out,M.out.alloc M.out.size _⟩
   ·have F:Hid (0=r):=by show 0=r;rw[E.out,ag (by decide),ag (fun h=>absurd h.2 (by decide))]
    clear E;go_wp2;go_ret;exact⟨fp F.out,M.out.alloc M.out.size _⟩
end
section
open Go.RowKit
namespace Ed
variable{w w':zW}
structure Tt where
 path:zA
 ver:zA
 s:zA
def hit(p v:zA)(x:Tt):Bool:=x.path.toList==p.toList&&x.ver.toList==v.toList
end Ed
end
section
open Go.RowKit
namespace Ed
variable{w w':zW}
def Fd(W:zW)(b o:Nat)(u:zV):Prop:=W.cell? ⟨b,o,none⟩=some u/\W.frozen? ⟨b,o,none⟩=false
theorem Fd.of_block{W W':zW}{b o:Nat}{u:zV}(h:Fd W b o u)(e:W'.heap[b]?=W.heap[b]?):Fd W' b o u:=
 ⟨by rw[aZ (w:=W) (a:=⟨b,o,none⟩) e];exact h.1,by rw[gh (w:=W) (a:=⟨b,o,none⟩) e];exact h.2⟩
theorem Fd.set{W:zW}{b o o':Nat}{u v:zV}(h:Fd W b o u)(D:o≠o'):Fd (W.setCell ⟨b,o',none⟩ v) b o u:=
 ⟨by rw[bX _ _ _ _ (fun e=>D (by injection e with _ e;exact e.symm))];exact h.1,by rw[dV];exact h.2⟩
theorem Fd.lt{W:zW}{b o:Nat}{u:zV}(h:Fd W b o u):b<W.heap.size:=aY W _ h.1
def cz(l:List Tt)(t:Tt)(most:Nat):List Tt×Int×Nat:=
 match l.findIdx? (hit t.path t.ver) with
 |none=>if most<=l.length then (l,4,0) else (l++[t],0,1)
 |some i=>if ((l.getD i t).s.toList==t.s.toList)=true then (l,0,0) else (l.modify i (fun x=>{x with s:=t.s}),0,1)
end Ed
end
section
open Go.RowKit
namespace Ed
variable{w w':zW}
variable{B V G:Nat}{mv T:zV}{ms ix:List Tt}{root:zA}
def lF(l:List Tt)(t:Tt)(most:Nat)(err:Int):List Tt×Int×Nat:=if err=0 then cz l t most else (l,err,0)
end Ed
end
section
open Go.RowKit
namespace Ed
variable{w w':zW}{B V G:Nat}{mv T:zV}{ms ix:List Tt}{root:zA}
def dE(l:List Tt)(p v:zA)(err:Int):List Tt×Nat:=
 if err=0 then (match l.findIdx? (hit p v) with|some i=>(l.eraseIdx i,1)|none=>(l,0)) else (l,0)
def iy(p:zA):Int:=if p.size≠0/\Pv.aH p.data.toList=false then 2 else 0
def rootOf(root p:zA):zA×Nat:=if iy p=0 then (if (p.toList==root.toList)=true then (root,0) else (p,1)) else (root,0)
end Ed
end
section
open Go.ChangeMaps Go.MapKept
open Go.WideElems (Fit rd rg pl rd_val elemAt rd_key)
open Go.Maps (Keyed)
namespace Mp
def pair(x:MapEntry):zV×zV:=(x.key,x.val)
def noR(_:zV):Option (DataW Unit×List MemPlace):=some (.nil,[])
def MapAt(P:Program)(k:TypeId)(w:zW)(b:Nat)(L:List (zV×zV)):Prop:=
 ∃D clock,w.heap[b]?=some (.map D clock)/\Fit P k noR D clock/\(D.toList.map pair).Perm L
variable{P:Program}{k:TypeId}{w w':zW}{b r:Nat}{L Y J:List (zV×zV)}{t e:TypeId}{key val old:zV}{U:Lit}
theorem MapAt.lt(h:MapAt P k w b L):b<w.heap.size:=by
 obtain⟨E,clock,D,_⟩:=h;exact(nG.1 D).1
theorem MapAt.of_block(h:MapAt P k w b L)(e:w'.heap[b]?=w.heap[b]?):MapAt P k w' b L:=by
 obtain⟨D,clock,E,r⟩:=h;exact⟨D,clock,e.trans E,r⟩
theorem MapAt.perm(h:MapAt P k w b L)(e:L.Perm Y):MapAt P k w b Y:=by
 obtain⟨D,clock,E,F,M⟩:=h;exact⟨D,clock,E,F,M.trans e⟩
theorem made(w:zW)(P:Program)(k:TypeId):MapAt P k (w.alloc (.map #[] 0)) w.heap.size []:=
 ⟨#[],0,(MapKept.heap_alloc w _).1,⟨by simp,stamped_empty 0,by simp⟩,by simp⟩
theorem MapAt.apart(h:MapAt P k w b L):L.Pairwise (fun p q=>p.1≠q.1):=by
 obtain⟨E,clock,S,F,O⟩:=h;have M:=((stamped_iff E clock).1 F.stamped).2.2;refine(O.pairwise_iff (fun {_ _} D=>Ne.symm D)).1 ?_;rw[mA];exact M
theorem MapAt.keys(h:MapAt P k w b L):∀p∈L,∃l,keyOf P k p.1=some l:=by
 obtain⟨M,clock,O,F,D⟩:=h;intro p hm;obtain⟨x,E,rfl⟩:=bI.1 (D.mem_iff.2 hm);obtain⟨y,hy⟩:=F.reads x E;exact⟨_,rd_key hy⟩
theorem MapAt.look(c:Bool)(h:MapAt P k w b L)(K:Keyed P k)(ht:P.underlying t=some (.map k e)){z:zV}(hz:(zeroValue e).run P w=.ok z w)(E:keyOf P k key=some U):
  ((Instr.lookup t (.map (some b)) key c).run P w=.ok (if c then .tuple #[z,.bool false] else z) w/\∀p∈L,p.1≠key)\/
  ∃v,(key,v)∈L/\(Instr.lookup t (.map (some b)) key c).run P w=.ok (if c then .tuple #[v,.bool true] else v) w:=by
 obtain⟨es,clock,S,F,O⟩:=h;rcases Maps.fit_look c K ht hz S F E with⟨D,hn,_⟩|⟨e0,y,hm,W,D,_⟩
 ·refine Or.inl ⟨D,fun p M=>?_⟩
  obtain⟨x,hx,rfl⟩:=bI.1 (O.mem_iff.2 M);exact hn x hx
 ·refine Or.inr ⟨e0.val,O.mem_iff.1 (bI.2 ⟨e0,hm,by rw[pair,W]⟩),D⟩
theorem MapAt.look_none(c:Bool)(h:MapAt P k w b L)(K:Keyed P k)(M:P.underlying t=some (.map k e)){z:zV}(O:(zeroValue e).run P w=.ok z w)(D:keyOf P k key=some U)(F:∀p∈L,p.1≠key):
  (Instr.lookup t (.map (some b)) key c).run P w=.ok (if c then .tuple #[z,.bool false] else z) w:=by
 rcases h.look c K M O D with⟨E,_⟩|⟨v,hm,_⟩
 ·exact E
 ·exact absurd rfl (F _ hm)
theorem uniq:∀{L:List (zV×zV)} (_:L.Pairwise (fun p q=>p.1≠q.1)) {key v u:zV} (_:(key,v)∈L) (_:(key,u)∈L),v=u
 |[],_,_,_,_,E,_=>by cases E
 |x::r,h,key,v,u,E,O=>by
  obtain⟨S,hb⟩:=eu.1 h;rcases aP.1 E with M|W
  ·rcases aP.1 O with D|F
   ·have e3:=M.trans D.symm
    injection e3
   ·exact absurd (by rw[<-M]) (S _ F)
  ·rcases aP.1 O with D|F
   ·exact absurd (by rw[<-D]) (S _ W)
   ·exact uniq hb W F
theorem MapAt.look_some(c:Bool)(h:MapAt P k w b L)(K:Keyed P k)(F:P.underlying t=some (.map k e)){z:zV}(O:(zeroValue e).run P w=.ok z w)(D:keyOf P k key=some U){v:zV}(hm:(key,v)∈L):
  (Instr.lookup t (.map (some b)) key c).run P w=.ok (if c then .tuple #[v,.bool true] else v) w:=by
 rcases h.look c K F O D with⟨_,E⟩|⟨u,M,E⟩
 ·exact absurd rfl (E _ hm)
 ·rw[uniq h.apart hm M];exact E
theorem MapAt.F2(h:MapAt P k w b L)(K:Keyed P k)(ht:P.underlying t=some (.map k e))(hn:L.length<maxLen)(D:keyOf P k key=some U)(W:∀p∈L,p.1≠key)(val:zV):
  ∃w',(Instr.mapUpdate t (.map (some b)) key val).run P w=.ok () w'/\w.mapTurned w' b/\MapAt P k w' b ((key,val)::L):=by
 obtain⟨E,clock,O,F,hp⟩:=h;have GM:∀x∈E.toList,x.key≠key:=fun x M=>W _ (hp.mem_iff.1 (bI.2 ⟨x,M,rfl⟩))
 have a0:E.size<maxLen:=by
  have:=hp.length_eq;rw[cW,lZ] at this;omega
 rcases K.find w D E.toList F.keys with⟨h1,S⟩|⟨j,e0,h1,S,h3⟩
 ·refine⟨setBlock w b (.map (E.push ⟨key,val,clock⟩) (clock+1)),?_,⟨E,clock,_,_,O,rfl⟩,E.push ⟨key,val,clock⟩,clock+1,heap_setBlock_same O _,⟨by simp;omega,stamped_push F.stamped S,?_⟩,?_⟩
  ·simp[Instr.mapUpdate,run_underlying ht,MapKept.run_getObj_map O,K.check w false D,h1,MapKept.run_setObj_map _ O,Result.andThen,setBlock]
  ·intro x M
   simp only[Array.toList_push,bH,cq] at M;rcases M with M|rfl
   ·exact F.reads x M
   ·exact⟨_,WideElems.rd_mk (R:=noR) D rfl⟩
  ·rw[Array.toList_push,eZ,List.map_singleton]
   exact(sW _ _).trans (hp.cons _)
 ·exact absurd h3 (GM e0 (iN S))
theorem ot{α:Type}:∀(l:List α)(j:Nat)(x:α),j<l.length->(l.set j x).Perm (x::l.eraseIdx j)
 |y::r,0,x,_=>by simp
 |y::r,j+1,x,h=>by
  simp only[List.set_cons_succ,List.eraseIdx_cons_succ];exact((ot r j x (by simpa using h)).cons y).trans (List.Perm.swap _ _ _)
theorem mG{α:Type}:∀(l:List α)(j:Nat)(h:j<l.length),l.Perm (l[j]::l.eraseIdx j)
 |y::r,0,_=>by simp
 |y::r,j+1,h=>by
  simp only[List.getElem_cons_succ,List.eraseIdx_cons_succ];exact((mG r j (by simpa using h)).cons y).trans (List.Perm.swap _ _ _)
theorem MapAt.F3(h:MapAt P k w b L)(K:Keyed P k)(ht:P.underlying t=some (.map k e))(hkey:keyOf P k key=some U)(hL:L.Perm ((key,old)::Y))(val:zV):
  ∃w',(Instr.mapUpdate t (.map (some b)) key val).run P w=.ok () w'/\w.mapTurned w' b/\MapAt P k w' b ((key,val)::Y):=by
 have hap:=h.apart;obtain⟨es,clock,hb,F,hp⟩:=h;have hm:(key,old)∈es.toList.map pair:=hp.mem_iff.2 (hL.mem_iff.2 (bo ..));obtain⟨x0,hx0,ex0⟩:=bI.1 hm;rcases K.find w hkey es.toList F.keys with⟨h1,h2⟩|⟨j,e0,h1,h2,h3⟩
 ·exact absurd (by injection ex0) (h2 x0 hx0)
 ·have hj:es[j]?=some e0:=by simpa using h2
  have hjl:j<es.toList.length:=(dv.1 h2).1;have QG:∀e',es[j]?=some e'->({e' with key:=key,val:=val}:MapEntry).key=e'.key:=fun e' he'=>by rw[hj] at he';cases he';exact h3.symm
  have Ov:(es.modify j (fun e'=>{e' with key:=key,val:=val})).toList=es.toList.set j {e0 with key:=key,val:=val}:=by rw[Array.toList_modify,modify_eq_set _ _ _ _ h2]
  have hgj:es.toList[j]=e0:=(dv.1 h2).2;refine⟨setBlock w b (.map (es.modify j (fun e'=>{e' with key:=key,val:=val})) clock),?_,⟨es,clock,_,_,hb,rfl⟩,es.modify j (fun e'=>{e' with key:=key,val:=val}),clock,heap_setBlock_same hb _,⟨by simpa using F.size,stamped_modify F.stamped _ _ (fun _ _=>rfl) (fun e' _ he'=>QG e' he'),?_⟩,?_⟩
  ·simp[Instr.mapUpdate,run_underlying ht,MapKept.run_getObj_map hb,K.check w false hkey,h1,hj,h3,K.stays w hkey,MapKept.run_setObj_map _ hb,Result.andThen,setBlock]
  ·intro x hx
   rw[Ov] at hx;rcases List.mem_or_eq_of_mem_set hx with hx|rfl
   ·exact F.reads x hx
   ·exact⟨_,WideElems.rd_mk (R:=noR) hkey rfl⟩
  ·rw[Ov]
   have e1:=(ot es.toList j {e0 with key:=key,val:=val} hjl).map pair;have e2:=(mG es.toList j hjl).map pair;rw[hgj] at e2;simp only[bD] at e1 e2
   have e3:pair e0=(key,old):=by
    have m1:(key,e0.val)∈L:=hp.mem_iff.1 (bI.2 ⟨e0,iN h2,by rw[pair,h3]⟩);have m2:(key,old)∈L:=hL.mem_iff.2 (bo ..);rw[pair,h3,uniq hap m1 m2]
   rw[e3] at e2;have e4:((es.toList.eraseIdx j).map pair).Perm Y:=List.Perm.cons_inv ((e2.symm.trans hp).trans hL);exact e1.trans (e4.cons _)
theorem MapAt.Cx(h:MapAt P k w b L)(K:Keyed P k)(ht:P.underlying t=some (.map k e))(E:keyOf P k key=some U)(hL:L.Perm ((key,old)::Y))(ty:TypeId):
  ∃w',(Builtin.delete_ #[t,k] ty #[.map (some b),key]).run P w=.ok (.tuple #[]) w'/\w.mapTurned w' b/\MapAt P k w' b Y:=by
 have a1:=h.apart;obtain⟨D,clock,hb,F,hp⟩:=h;have hm:(key,old)∈D.toList.map pair:=hp.mem_iff.2 (hL.mem_iff.2 (bo ..));obtain⟨x0,a4,a0⟩:=bI.1 hm;rcases K.find w E D.toList F.keys with⟨h1,O⟩|⟨j,e0,h1,O,h3⟩
 ·exact absurd (by injection a0) (O x0 a4)
 ·have S:j<D.toList.length:=(dv.1 O).1
  have a3:j<D.size:=by simpa using S
  have a2:D.toList[j]=e0:=(dv.1 O).2
  have M:(D.eraseIdxIfInBounds j).toList=D.toList.eraseIdx j:=by
   unfold Array.eraseIdxIfInBounds;rw[dif_pos a3];simp
  refine⟨setBlock w b (.map (D.eraseIdxIfInBounds j) clock),?_,⟨D,clock,_,_,hb,rfl⟩,D.eraseIdxIfInBounds j,clock,heap_setBlock_same hb _,⟨aO (MapFrom.size_erase D j) F.size,stamped_erase F.stamped j,?_⟩,?_⟩
  ·simp[Builtin.delete_,run_underlying ht,MapKept.run_getObj_map hb,K.check w _ E,h1,MapKept.run_setObj_map _ hb,Result.andThen,setBlock]
  ·intro x hx
   rw[M] at hx;exact F.reads x ((List.eraseIdx_sublist _ _).subset hx)
  ·rw[M]
   have W:=(mG D.toList j S).map pair;rw[a2] at W;simp only[bD] at W
   have e3:pair e0=(key,old):=by
    have m1:(key,e0.val)∈L:=hp.mem_iff.1 (bI.2 ⟨e0,iN O,by rw[pair,h3]⟩);have m2:(key,old)∈L:=hL.mem_iff.2 (bo ..);rw[pair,h3,uniq a1 m1 m2]
   rw[e3] at W;exact List.Perm.cons_inv ((W.symm.trans hp).trans hL)
theorem MapAt.len(h:MapAt P k w b L)(O:P.underlying t=some (.map k e))(ty:TypeId):(Builtin.len_ #[t] ty #[.map (some b)]).run P w=.ok (.int .i64 L.length) w:=by
 obtain⟨S,clock,E,F,M⟩:=h;have D:=M.length_eq;rw[cW,lZ] at D;rw[<-D];simp[Builtin.len_,run_underlying O,MapKept.run_getObj_map E,goInt,Result.andThen]
def cB(P:Program)(k:TypeId)(w:zW)(b r:Nat)(L J:List (zV×zV)):Prop:=
 ∃E clock D seen F,w.heap[b]?=some (.map E clock)/\Fit P k noR E clock/\(E.toList.map pair).Perm L/\w.heap[r]?=some (.mapIter (some b) D seen F)/\(∀x∈E.toList,x.born<D)/\D<=F/\D<=clock/\((leftOf E seen).toList.map pair).Perm J
theorem cB.owns(h:cB P k w b r L J):MapAt P k w b L:=by
 obtain⟨D,clock,_,_,_,E,F,M,_⟩:=h;exact⟨D,clock,E,F,M⟩
theorem cB.lt(h:cB P k w b r L J):r<w.heap.size:=by
 obtain⟨M,clock,D,seen,F,_,_,_,E,_⟩:=h;exact(nG.1 E).1
theorem cB.ne(h:cB P k w b r L J):r≠b:=by
 obtain⟨O,clock,D,seen,M,F,_,_,E,_⟩:=h;intro e;rw[e,F] at E;cases E
theorem cB.of_block(h:cB P k w b r L J)(M:w'.heap[b]?=w.heap[b]?)(O:w'.heap[r]?=w.heap[r]?):cB P k w' b r L J:=by
 obtain⟨S,clock,D,seen,E,W,F,hp,hr,rest⟩:=h;exact⟨S,clock,D,seen,E,M.trans W,F,hp,O.trans hr,rest⟩
theorem MapAt.range(h:MapAt P k w b L)(S:P.underlying t=some (.map k e)):
  ∃w',(Instr.range t (.map (some b))).run P w=.ok (.pointer (some ⟨w.heap.size,0,none⟩)) w'/\cB P k w' b w.heap.size L L/\w.grownBy w' none/\w'.heap.size=w.heap.size+1:=by
 have E:=h.lt;obtain⟨D,clock,M,F,O⟩:=h;refine⟨_,run_range_map w t k e b D clock S M,⟨D,clock,clock,#[],clock,((MapKept.heap_alloc w _).2 b E).trans M,F,O,(MapKept.heap_alloc w _).1,F.stamped.1,af _,af _,?_⟩,World.grownBy_alloc w _ none,by simp⟩
 have:leftOf D #[]=D:=by
  unfold leftOf;rw[Array.filter_eq_self];intro x _;simp
 rw[this];exact O
theorem G0{l:List MapEntry}(E:(l.map (·.born)).Nodup){e:MapEntry}(he:e∈l):l.Perm (e::l.filter fun x=>!(x.born==e.born)):=by
 obtain⟨s,t,rfl⟩:=List.append_of_mem he;rw[eZ,bD,ru] at E;obtain⟨_,M,O⟩:=E;have S:=(List.nodup_cons.1 M).1
 have W:s.filter (fun x=>!(x.born==e.born))=s:=List.filter_eq_self.2 fun x D=>by
  have:=O x.born (bI.2 ⟨x,D,rfl⟩) e.born (bo ..);simp[this]
 have ht:t.filter (fun x=>!(x.born==e.born))=t:=List.filter_eq_self.2 fun x D=>by
  have:x.born≠e.born:=fun F=>S (bI.2 ⟨x,D,F⟩)
  simp[this]
 rw[List.filter_append,List.filter_cons,W,ht];simp
theorem cB.next(h:cB P k w b r L J)(ty:TypeId):
  (J=[]/\(Instr.next (zP r) false ty).run P w=.ok (.tuple #[.bool false]) w)\/
  ∃key v S w',(key,v)∈L/\J.Perm ((key,v)::S)/\(Instr.next (zP r) false ty).run P w=.ok (.tuple #[.bool true,key,v]) w'/\
   cB P k w' b r L S/\w.grownBy w' (some r)/\w'.heap.size=w.heap.size/\(Instr.entry (zP r)).run P w'=.ok (.tuple #[key,v]) w':=by
 have a7:=h.ne;obtain⟨M,clock,D,seen,c0,hb,F,hp,hr,hold,a9,a2,hl⟩:=h;rcases run_next_at (P:=P) w ty r b D c0 seen M clock hr hb hold a9 with⟨h0,E⟩|⟨e,he,w1,O,E⟩
 ·refine Or.inl ⟨?_,E⟩
  have h1:=hl.length_eq;rw[cW,lZ,h0] at h1;exact qf h1.symm
 ·obtain⟨a0,aa⟩:=mem_left he
  have a3:=(stamped_iff M clock).1 F.stamped;have a8:w1.heap[r]?=some (.mapIter (some b) D seen c0):=by rcases O with rfl|rfl<;>exact hr
  have a4:w1.heap[b]?=some (.map M clock):=by rcases O with rfl|rfl<;>exact hb
  have Ck:=heap_set (o':=.mapIter (some b) D (seen.push e.born) clock) a8;have W:(setBlock w1 r (.mapIter (some b) D (seen.push e.born) clock)).heap[b]?=some (.map M clock):=(Ck.2 b (fun e1=>a7 e1.symm)).trans a4
  have a5:(leftOf M (seen.push e.born)).toList=(leftOf M seen).toList.filter (fun x=>!(x.born==e.born)):=by
   unfold leftOf;rw[Array.toList_filter,Array.toList_filter,List.filter_filter];refine List.filter_congr (fun x _=>?_);rw[contains_push];cases seen.contains x.born<;>cases (x.born==e.born)<;>rfl
  have a6:((leftOf M seen).toList.map (·.born)).Nodup:=by
   unfold leftOf;rw[Array.toList_filter];exact a3.2.1.sublist (List.filter_sublist.map _)
  have a1:=(G0 a6 he).map pair;rw[<-a5,bD] at a1
  refine Or.inr ⟨e.key,e.val,(leftOf M (seen.push e.born)).toList.map pair,_,hp.mem_iff.1 (bI.2 ⟨e,a0,rfl⟩),hl.symm.trans a1,E,
   ⟨M,clock,D,seen.push e.born,clock,W,F,hp,Ck.1,hold,a2,a2,iV _⟩,?_,?_,
   run_entry_at _ r b D seen M clock e Ck.1 W a0 a3.2.1⟩
  ·rcases O with rfl|rfl<;>exact⟨rfl,rfl,rfl,by simp[setBlock],fun i _ hi=>Ck.2 i (fun e1=>hi (by rw[e1]))⟩
  ·rcases O with rfl|rfl<;>simp[setBlock]
end Mp
end
section
open Go.RowKit
namespace Ed
variable{w w':zW}
theorem Cy:laidOutB prog=true:=by kernel_rfl
theorem O4:(103:TypeId)<prog.types.size:=gJ (by kernel_rfl)
theorem M3:(match prog.underlying 103 with|some (.array _ _)|some (.struct _)=>true|_=>false)=true:=by kernel_rfl
theorem M4:prog.keyTypeAt 3 103=true:=by kernel_rfl
theorem JX:prog.keyType 103=true:=by kernel_rfl
theorem F4:prog.types.size=357:=by kernel_rfl
theorem Cz:prog.cellsOf 103=3:=by kernel_rfl
theorem JY:prog.cellsOf 101=1:=by kernel_rfl
theorem F5:prog.cellsOf 9=1:=by kernel_rfl
theorem O5:WideMaps.KeyLaw prog 103:=deep_law_laid Cy (m:=3) (Nat.le_of_ble_eq_true rfl) O4 M4 M3
theorem gM:Maps.Keyed prog 103:=Maps.Keyed.of_law O5
theorem oX(d:Nat)(s:zA)(h:s.size<=maxLen):prog.keyLits (d+1) 9 [.string s]=some [.string s.data.toList]:=by
 unfold Program.keyLits;rw[underlying9];show(if s.size<=maxLen then some [Lit.string s.data.toList] else none)=_;rw[aj h]
theorem EF(d:Nat)(k:Int)(h:(Lit.int .i64 k).wf=true):prog.keyLits (d+1) 101 [.int .i64 k]=some [.int .i64 k]:=by
 unfold Program.keyLits;rw[underlying101];show(if IntKind.i64=IntKind.i64/\(Lit.int .i64 k).wf=true then some [Lit.int .i64 k] else none)=_;rw[aj ⟨rfl,h⟩]
abbrev plc(k:Int)(p v:zA):zV:=.agg #[.int .i64 k,.string p,.string v]
abbrev txt(s:zA):zV:=.agg #[.string s,.bool true]
theorem rM(k:Int)(p v:zA)(E:(Lit.int .i64 k).wf=true)(F:p.size<=maxLen)(M:v.size<=maxLen):∃l,keyOf prog 103 (plc k p v)=some l:=by
 have D:prog.keyLits (prog.types.size+1) 103 [.int .i64 k,.string p,.string v]=some [.int .i64 k,.string p.data.toList,.string v.data.toList]:=by
  rw[F4];unfold Program.keyLits;rw[underlying103];simp only[Cz,bN,jT];rw[aj ⟨trivial,by kernel_rfl⟩];simp only[List.mapM_cons,List.mapM_nil,F5,JY,List.drop,List.take,EF 356 k E,oX 356 p F,oX 356 v M]
  rfl
 refine⟨.string (keyBytes [.int .i64 k,.string p.data.toList,.string v.data.toList]),?_⟩;unfold keyOf;rw[underlying103];show(if (prog.keyType 103&&(Value.agg #[.int .i64 k,.string p,.string v]).formed prog 103)=true then (prog.keyLits (prog.types.size+1) 103 [.int .i64 k,.string p,.string v]).map (fun O=>Lit.string (keyBytes O)) else none)=_;rw[JX,D];rw[aj (by simp[Value.formed,underlying103,Cz])]
 rfl
theorem mH(w:zW):(zeroValue 123).run prog w=.ok (.agg #[zE,.bool false]) w:=by kernel_rfl
abbrev rN(w:zW)(b:Nat)(L:List (zV×zV)):Prop:=Mp.MapAt prog 103 w b L
def Good(L:List (zV×zV)):Prop:=∀x∈L,∃(k:Int)(p v s:zA),x=(plc k p v,txt s)
def O6(k:Int):List zV->Bool
 | .int .i64 q::_=>q==k
 |_=>false
def gw(k:Int)(x:zV×zV):Bool:=match x.1 with
 | .agg D=>O6 k D.toList
 |_=>false
structure aC(w:World)(I mb G:Nat)(L:List (zV×zV)):Prop where
 f0:Fd w I 0 (.map (some mb))
 f1:Fd w I 1 (.int .i64 G)
 map:rN w mb L
 good:Good L
 ne:I≠mb
variable{I mb G:Nat}{L:List (zV×zV)}
theorem aC.of_block(h:aC w I mb G L)(D:w'.heap[I]?=w.heap[I]?)(E:w'.heap[mb]?=w.heap[mb]?):aC w' I mb G L:=
 ⟨h.f0.of_block D,h.f1.of_block D,h.map.of_block E,h.good,h.ne⟩
theorem aC.below(h:aC w I mb G L)(D:Below w.heap.size w w'):aC w' I mb G L:=
 h.of_block (D.block I h.f0.lt) (D.block mb h.map.lt)
end Ed
end
section
open Go.RowKit
namespace Ed
section
variable{P:Program}(w:zW){Z:Array Oper}{rest:List Oper}{o:Oper}{a:Act}{Q:Exit->Act->zW->Prop}
theorem nu(M:o.guard=none)(m:Operand)(t:TypeId)(F:o.op=Op.range t m)(k e:TypeId)(O:P.underlying t=some (.map k e))(b:Nat)(L:List (zV×zV))
  (hm:a.eval m=.map (some b)) (h:Mp.MapAt P k w b L)
  (hK:∀w',Mp.cB P k w' b w.heap.size L L->w.grownBy w' none->w'.heap.size=w.heap.size+1->wpList P Z Q rest (a.put o.dst (.pointer (some ⟨w.heap.size,0,none⟩))) w'):
  wpList P Z Q (o::rest) a w:=by
 refine wpList_plain M fun S E=>?_
 obtain⟨w',D,r1,r2,r3⟩:=h.range O;unfold Oper.wp;simp[execOp,F,hm,D,Result.andThen];exact E _ _ (hK w' r1 r2 r3)
theorem vD(hg:o.guard=none)(it:Operand)(S:o.op=Op.next it false)(k:TypeId)(b r:Nat)(L J:List (zV×zV))(hL:Good L)
  (hit:a.eval it=zP r) (h:Mp.cB P k w b r L J)
  (F:J=[]->wpList P Z Q rest (a.put o.dst (.tuple #[.bool false])) w)
  (M:∀(q:Int)(p v s:zA)(E:List (zV×zV))(w':zW),J.Perm ((plc q p v,txt s)::E)->Mp.cB P k w' b r L E->w.grownBy w' (some r)->w'.heap.size=w.heap.size->
   (Instr.entry (zP r)).run P w'=.ok (.tuple #[plc q p v,txt s]) w'->wpList P Z Q rest (a.put o.dst (.tuple #[.bool true,plc q p v,txt s])) w'):
  wpList P Z Q (o::rest) a w:=by
 refine wpList_plain hg fun K' O=>?_
 unfold Oper.wp;rcases h.next o.type with⟨h0,D⟩|⟨key,v,E,w',hm,hp,D,a1,a0,a2,W⟩
 ·simp[execOp,S,hit,D,Result.andThen]
  exact O _ _ (F h0)
 ·obtain⟨q,p,v,s,e⟩:=hL _ hm
  injection e with e1 e2;subst e1;subst e2;simp[execOp,S,hit,D,Result.andThen];exact O _ _ (M q p v s E w' hp a1 a0 a2 W)
end
variable{w w':zW}{I mb G:Nat}{L:List (zV×zV)}
theorem G1(k:Int)(w:zW)(h:aC w I mb G L)(hl:L.length<=100000):
  zC 65 #[zP I,.int .i64 k] w fun e w'=>e=.returned (.int .i64 ((L.countP (gw k):Nat):Int))/\Below w.heap.size w w':=by
 have c0:=h.f0.1;have hM:rN w mb L:=h.map;have HG:=zH h.good;clear h;generalize hr:L.countP (gw k)=r;have HR:=zH hr;clear hr;go_enter func65,ntmps65
 go_wp2_with (first
  |(at_range;refine nu _ rfl _ 69 rfl 103 123 underlying69 mb L rfl hM ?_;intro w0 a3 a0 a8)
  |go_in)
 go_frame
 have a4:Below w.heap.size w w0:=(ae _ _).grown a0 (af _) (fun j hj=>by cases hj);clear hM c0 a0;go_loopg [5] L.length (fun gg nv wr=>∃(J:List (zV×zV))(n:Nat),nv=.int .i64 n/\J.length<=gg/\n+J.length<=L.length/\Hid (n+J.countP (gw k)=r)/\Hid (Mp.cB prog 103 wr mb w.heap.size L J)/\Below w.heap.size w wr)
 case atStart=>exact⟨L,0,rfl,af _,by omega,by show _=_;rw[cZ];exact HR.out,a3,a4⟩
 case round=>
  obtain⟨J,n,rfl,a6,hn,HC,O,hb⟩:=hrel
  go_wp2_with (first
   |(at_next;refine vD _ rfl _ rfl 103 mb w.heap.size L J HG.out rfl O.out ?_ ?_)
   |go_in)
  ·intro h0
   have HF:Hid ((n:Int)=r):=by
    have h1:=HC.out;rw[h0] at h1;show(n:Int)=r;simp at h1;omega
   clear HC O;go_wp2;go_ret;exact⟨fp HF.out,hb⟩
  ·intro q p v s D w1 hp a2 a1 a9 a7
   have S:Below w.heap.size w w1:=hb.grown a1 hb.size (fun j hj=>by cases hj;exact af _);have a5:=hp.length_eq;have F:=hp.countP_eq (gw k);rw[List.countP_cons] at F;rw[bN] at a5
   have M:Hid ((if (q==k)=true then n+1 else n)+D.countP (gw k)=r):=by
    have h1:=HC.out;have e1:gw k (plc q p v,txt s)=(q==k):=rfl;rw[e1] at F;show _=r
    split
    ·rename_i e2;rw[aj e2] at F;omega
    ·rename_i e2;rw[ag e2] at F;omega
   clear F HC a1;have E:=zH a2;clear a2
   have QH:Hid (Mp.cB prog 103 (w1.alloc (.cells #[.int .i64 q,.string p,.string v] 103)) mb w.heap.size L D):=
    E.out.of_block (aG _ _ _ E.out.owns.lt) (aG _ _ _ E.out.lt)
   have W:Below w.heap.size w (w1.alloc (.cells #[.int .i64 q,.string p,.string v] 103)):=S.alloc S.size _;clear E O hp;cases hq:(q==k)
   ·rw[hq] at M
    go_wp2;go_roundg D.length
    case measure=>omega
    case rel=>exact⟨D,n,rfl,af _,by omega,M.out,QH,W⟩
   ·rw[hq] at M
    go_wp2;go_roundg D.length
    case measure=>omega
    case rel=>exact⟨D,n+1,by go_num,af _,by omega,M.out,QH,W⟩
end Ed
end
section
open Go.RowKit
namespace Ed
theorem toList_inj{a b:zA}(h:(a.toList==b.toList)=true):a=b:=by
 have D:=eq_of_beq h;rw[eB,eB] at D;cases a;cases b;simp at D;simp[D]
theorem fq{p v:zA}{x:Tt}:hit p v x=true↔x.path=p/\x.ver=v:=by
 unfold hit;rw[ed]
 constructor
 ·rintro⟨D,E⟩;exact⟨toList_inj D,toList_inj E⟩
 ·rintro⟨rfl,rfl⟩;simp
def ent(k:Int)(t:Tt):zV×zV:=(plc k t.path t.ver,txt t.s)
def di(root:zA):List (zV×zV):=if root.size=0 then [] else [(plc 2 ⟨#[]⟩ ⟨#[]⟩,txt root)]
def dJ(ms ix:List Tt)(root:zA):List (zV×zV):=ms.map (ent 0)++(ix.map (ent 1)++di root)
inductive ft(L:List (zV×zV))(K:zV)(k:Int)(s:zA)(most:Nat):Int->Nat->List (zV×zV)->Prop
 |same:(K,txt s)∈L->ft L K k s most 0 0 L
 |other (old:zA) (Y:List (zV×zV)):L.Perm ((K,txt old)::Y)->(old.toList==s.toList)=false->ft L K k s most 0 1 ((K,txt s)::Y)
 |many:(∀x∈L,x.1≠K)->most<=L.countP (gw k)->ft L K k s most 4 0 L
 |fresh:(∀x∈L,x.1≠K)->L.countP (gw k)<most->ft L K k s most 0 1 ((K,txt s)::L)
inductive iz(L:List (zV×zV))(K:zV):Nat->List (zV×zV)->Prop
 |none:(∀x∈L,x.1≠K)->iz L K 0 L
 |there (old:zA) (Y:List (zV×zV)):L.Perm ((K,txt old)::Y)->iz L K 1 Y
def Off(k:Int)(A:List (zV×zV)):Prop:=∀x∈A,gw k x=false
variable{k:Int}{A C:List (zV×zV)}
theorem Off.ne(h:Off k A){x:zV×zV}(M:x∈A)(p v:zA):x.1≠plc k p v:=fun e=>by
 have E:=h x M;obtain⟨a,b⟩:=x;have D:a=plc k p v:=e;subst D;have F:(k==k)=false:=E;simp at F
theorem Off.count(h:Off k A):A.countP (gw k)=0:=by
 rw[List.countP_eq_zero];intro x D;rw[h x D]
 decide
theorem JZ(k:Int)(t:Tt):gw k (ent k t)=true:=by
 show(k==k)=true;simp
theorem G2(k:Int)(l:List Tt):(l.map (ent k)).countP (gw k)=l.length:=by
 rw[List.countP_map];rw[show(gw k ∘ ent k)=fun _=>true from funext fun t=>JZ k t];simp
theorem gO{k q:Int}(D:q≠k)(l:List Tt):Off k (l.map (ent q)):=fun x E=>by
 obtain⟨t,_,rfl⟩:=bI.1 E;show(q==k)=false;simp[D]
theorem ib{k:Int}(E:2≠k)(r:zA):Off k (di r):=fun x D=>by
 unfold di at D
 split at D
 ·cases D
 ·rw[cq] at D
  subst D;show((2:Int)==k)=false;simp[E]
theorem Off.append(h:Off k A)(D:Off k C):Off k (A++C):=fun x E=>(bH.1 E).elim (h x) (D x)
theorem AY(k:Int):Off k []:=fun x D=>by cases D
theorem M5{k:Int}{t:Tt}{p v:zA}(h:(ent k t).1=plc k p v):hit p v t=true:=by
 simp only[ent,Value.agg.injEq,Array.mk.injEq,eH,Value.string.injEq,true_and,fe] at h;exact fq.2 h
theorem G3(D:Off k A)(E:Off k C)(l:List Tt):(A++(l.map (ent k)++C)).countP (gw k)=l.length:=by
 rw[List.countP_append,List.countP_append,D.count,E.count,G2];omega
theorem rO(F:Off k A)(M:Off k C){l:List Tt}{p v:zA}(h:l.findIdx? (hit p v)=none):∀x∈A++(l.map (ent k)++C),x.1≠plc k p v:=by
 intro x D;rcases bH.1 D with D|D
 ·exact F.ne D p v
 ·rcases bH.1 D with D|D
  ·obtain⟨t,O,rfl⟩:=bI.1 D
   intro e;have E:=M5 e;rw[qo.1 h t O] at E;cases E
  ·exact M.ne D p v
theorem middle(A C M:List (zV×zV))(x:zV×zV)(N:List (zV×zV))(h:M.Perm (x::N)):(A++(M++C)).Perm (x::(A++(N++C))):=by
 have D:(M++C).Perm (x::(N++C)):=h.append_right C;exact(D.append_left A).trans List.perm_middle
theorem tJ(k:Int)(l:List Tt)(i:Nat)(h:i<l.length):(l.map (ent k)).Perm (ent k l[i]::(l.eraseIdx i).map (ent k)):=by
 have D:=(Mp.mG l i h).map (ent k);exact D
theorem zq(hA:Off k A)(hC:Off k C)(l:List Tt)(t:Tt)(most:Nat):
  ∃L',ft (A++(l.map (ent k)++C)) (plc k t.path t.ver) k t.s most (cz l t most).2.1 (cz l t most).2.2 L'/\L'.Perm (A++((cz l t most).1.map (ent k)++C)):=by
 unfold cz;cases hfi:l.findIdx? (hit t.path t.ver) with
 |none=>
  have hn:=rO hA hC hfi;have hc:=G3 hA hC l;by_cases hm:most<=l.length
  ·simp only[aj hm]
   exact⟨_,ft.many hn (by rw[hc];exact hm),iV _⟩
  ·simp only[ag hm]
   refine⟨_,ft.fresh hn (by rw[hc];omega),?_⟩;refine(middle A C _ _ _ ?_).symm;rw[eZ];exact sW _ _
 |some i=>
  obtain⟨D,hh,_⟩:=qj.1 hfi;obtain⟨F,M⟩:=fq.1 hh;have S:l.getD i t=l[i]:=by simp[List.getD,D]
  simp only[S];cases hq:(l[i].s.toList==t.s.toList)
  ·have hp:=middle A C _ _ _ (tJ k l i D)
   have O:ent k l[i]=(plc k t.path t.ver,txt l[i].s):=by rw[ent,F,M]
   rw[O] at hp;simp only[jw,fH];refine⟨_,ft.other _ _ hp hq,?_⟩;have W:i<(l.modify i (fun x=>{x with s:=t.s})).length:=by simpa using D
   have E:=middle A C _ _ _ (tJ k (l.modify i (fun x=>{x with s:=t.s})) i W);have e4:(l.modify i (fun x=>{x with s:=t.s}))[i]={l[i] with s:=t.s}:=by simp
   have e5:(l.modify i (fun x=>{x with s:=t.s})).eraseIdx i=l.eraseIdx i:=by
    apply nI;intro j;simp only[List.getElem?_eraseIdx,List.getElem?_modify]
    split
    ·rename_i h
     have:i≠j:=by omega
     simp[this]
    ·rename_i h
     have:i≠j+1:=by omega
     simp[this]
   rw[e4,e5] at E
   have e6:ent k {l[i] with s:=t.s}=(plc k t.path t.ver,txt t.s):=by
    show(plc k l[i].path l[i].ver,txt t.s)=_;rw[F,M]
   rw[e6] at E;exact E.symm
  ·have O:ent k l[i]=(plc k t.path t.ver,txt t.s):=by rw[ent,F,M,toList_inj hq]
   simp only[dD];refine⟨_,ft.same ?_,iV _⟩;rw[<-O];exact qh _ (gU _ (bI.2 ⟨_,dP D,rfl⟩))
theorem zr(W:Off k A)(hC:Off k C)(l:List Tt)(p v:zA):
  ∃E,iz (A++(l.map (ent k)++C)) (plc k p v) (dE l p v 0).2 E/\E.Perm (A++((dE l p v 0).1.map (ent k)++C)):=by
 unfold dE;rw[aj rfl];cases hfi:l.findIdx? (hit p v) with
 |none=>exact⟨_,iz.none (rO W hC hfi),iV _⟩
 |some i=>
  obtain⟨D,hh,_⟩:=qj.1 hfi;obtain⟨M,O⟩:=fq.1 hh;have F:=middle A C _ _ _ (tJ k l i D);have S:ent k l[i]=(plc k p v,txt l[i].s):=by rw[ent,M,O]
  rw[S] at F;exact⟨_,iz.there _ _ F,iV _⟩
theorem jP{r:zA}(h:r.size=0):r=⟨#[]⟩:=by
 cases r with
 |mk d=>
  have:d=#[]:=Array.eq_empty_of_size_eq_zero h;rw[this]
theorem J0(W:Off 2 A)(root p:zA)(hp:p.size≠0):
  ∃O,ft (A++di root) (plc 2 ⟨#[]⟩ ⟨#[]⟩) 2 p 1 0 (if (p.toList==root.toList)=true then (root,0) else (p,1)).2 O/\O.Perm (A++di (if (p.toList==root.toList)=true then (root,0) else (p,1)).1):=by
 have S:di p=[(plc 2 ⟨#[]⟩ ⟨#[]⟩,txt p)]:=ag hp;by_cases M:root.size=0
 ·have E:di root=[]:=aj M
  have D:(p.toList==root.toList)=false:=by
   cases h:(p.toList==root.toList)
   ·rfl
   ·exact absurd (by rw[toList_inj h];exact M) hp
  rw[E,D];simp only[jw,fH,im];refine⟨_,ft.fresh (fun x hx=>W.ne hx _ _) (by rw[W.count];decide),?_⟩;rw[S];exact(sW _ _).symm
 ·have E:di root=[(plc 2 ⟨#[]⟩ ⟨#[]⟩,txt root)]:=ag M
  cases D:(p.toList==root.toList)
  ·simp only[jw,fH]
   have F:(root.toList==p.toList)=false:=by
    cases h:(root.toList==p.toList)
    ·rfl
    ·rw[toList_inj h] at D
     simp at D
   refine⟨_,ft.other root A (by rw[E];exact sW _ _) F,?_⟩;rw[S];exact(sW _ _).symm
  ·simp only[dD]
   refine⟨_,ft.same ?_,iV _⟩;rw[E,toList_inj D];exact qh _ (cq.2 rfl)
theorem G4(hA:Off 2 A)(root p:zA)(F:p.size=0):
  ∃O,iz (A++di root) (plc 2 ⟨#[]⟩ ⟨#[]⟩) (if (p.toList==root.toList)=true then (root,0) else (p,1)).2 O/\O.Perm (A++di (if (p.toList==root.toList)=true then (root,0) else (p,1)).1):=by
 have W:di p=[]:=aj F;by_cases D:root.size=0
 ·have E:di root=[]:=aj D
  have M:(p.toList==root.toList)=true:=by rw[jP F,jP D];simp
  rw[M];simp only[dD];refine⟨_,iz.none (fun x S=>?_),iV _⟩;rw[E,im] at S;exact hA.ne S _ _
 ·have E:di root=[(plc 2 ⟨#[]⟩ ⟨#[]⟩,txt root)]:=ag D
  have M:(p.toList==root.toList)=false:=by
   cases h:(p.toList==root.toList)
   ·rfl
   ·exact absurd (by rw[<-toList_inj h];exact F) D
  rw[M];simp only[jw,fH];refine⟨A,iz.there root A (by rw[E];exact sW _ _),?_⟩;rw[W,im]
theorem wL(ms ix:List Tt)(root:zA):(dJ ms ix root).length<=ms.length+ix.length+1:=by
 have h:(di root).length<=1:=by
  unfold di
  split<;>simp
 simp only[dJ,aW,cW];omega
end Ed
end
section
open Go.RowKit
namespace Ed
variable{w w':zW}{I mb G:Nat}{L:List (zV×zV)}
theorem Good.perm{L D:List (zV×zV)}(h:Good L)(e:L.Perm D):Good D:=fun x E=>h x (e.mem_iff.2 E)
theorem Good.tail{x:zV×zV}{L:List (zV×zV)}(h:Good (x::L)):Good L:=fun y hy=>h y (cr _ hy)
theorem Good.cons{L:List (zV×zV)}(h:Good L)(k:Int)(p v s:zA):Good ((plc k p v,txt s)::L):=fun y hy=>by
 rcases aP.1 hy with rfl|hy
 ·exact⟨_,_,_,_,rfl⟩
 ·exact h y hy
theorem iA{b:Nat}(h:w.mapTurned w' b):ai (fun x=>x=b) w w':=
 have D:=h.grown
 ⟨D.os,D.tape,D.output,D.size,fun i F E=>D.block i F (fun e=>E (by injection e))⟩
theorem aC.stored{s:zA}{most:Nat}{r:Int}{d:Nat}{L':List (zV×zV)}{k:Int}{p v:zA}(h:aC w I mb G L)(hS:ft L (plc k p v) k s most r d L')(hd:d=1)(hl:L.length<=100000)(hk:(Lit.int .i64 k).wf=true)(hp:p.size<=maxLen)(hv:v.size<=maxLen):
  ∃w',(Instr.mapUpdate 69 (.map (some mb)) (plc k p v) (txt s)).run prog w=.ok () w'/\aC w' I mb G L'/\ai (fun x=>x=mb) w w':=by
 obtain⟨U,hkey⟩:=rM k p v hk hp hv;cases hS with
 |same _=>cases hd
 |other old Y hp hne=>
  obtain⟨w1,hrun,ht,hm⟩:=h.map.F3 gM underlying69 hkey hp (txt s);have tb:=iA ht;have e1:=tb.block I h.f0.lt h.ne;exact⟨w1,hrun,⟨h.f0.of_block e1,h.f1.of_block e1,hm,((h.good.perm hp).tail).cons _ _ _ _,h.ne⟩,tb⟩
 |many _ _=>cases hd
 |fresh hn _=>
  obtain⟨w1,hrun,ht,hm⟩:=h.map.F2 gM underlying69 (by unfold maxLen;omega) hkey hn (txt s);have tb:=iA ht;have e1:=tb.block I h.f0.lt h.ne;exact⟨w1,hrun,⟨h.f0.of_block e1,h.f1.of_block e1,hm,h.good.cons _ _ _ _,h.ne⟩,tb⟩
theorem aC.bump(h:aC w I mb G L):aC (w.setCell ⟨I,1,none⟩ (.int .i64 ((G:Int)+1))) I mb (G+1) L:=
 ⟨h.f0.set (by decide),⟨iu _ _ _ h.f1.1,by rw[dV];exact h.f1.2⟩,h.map.of_block (aM _ _ _ _ (fun e=>h.ne e.symm)),h.good,h.ne⟩
def fL(W:zW)(b:Nat)(k:Int)(p v:zA):Prop:=Fd W b 0 (.int .i64 k)/\Fd W b 1 (.string p)/\Fd W b 2 (.string v)
theorem fL.of_block{W W':zW}{b:Nat}{k:Int}{p v:zA}(h:fL W b k p v)(e:W'.heap[b]?=W.heap[b]?):fL W' b k p v:=⟨h.1.of_block e,h.2.1.of_block e,h.2.2.of_block e⟩
theorem fL.lt{W:zW}{b:Nat}{k:Int}{p v:zA}(h:fL W b k p v):b<W.heap.size:=h.1.lt
theorem fL.below{W W':zW}{b:Nat}{k:Int}{p v:zA}(h:fL W b k p v)(D:Below W.heap.size W W'):fL W' b k p v:=h.of_block (D.block b h.lt)
theorem fL.new(w:zW)(k:Int)(p v:zA):fL (w.alloc (.cells #[.int .i64 k,.string p,.string v] 103)) w.heap.size k p v:=by
 have D:(w.alloc (.cells #[.int .i64 k,.string p,.string v] 103)).heap[w.heap.size]?=some (.cells #[.int .i64 k,.string p,.string v] 103):=by
  show(w.heap.push _)[w.heap.size]?=_;simp
 refine⟨⟨?_,?_⟩,⟨?_,?_⟩,⟨?_,?_⟩⟩
 ·simp only[World.cell?,D];rfl
 ·simp only[World.frozen?,D];simp
 ·simp only[World.cell?,D];rfl
 ·simp only[World.frozen?,D];simp
 ·simp only[World.cell?,D];rfl
 ·simp only[World.frozen?,D];simp
theorem fL.set1{W:zW}{b:Nat}{k:Int}{p v:zA}(h:fL W b k p v):fL (W.setCell ⟨b,1,none⟩ (.string p)) b k p v:=
 ⟨h.1.set (by decide),⟨iu _ _ _ h.2.1.1,by rw[dV];exact h.2.1.2⟩,h.2.2.set (by decide)⟩
theorem fL.set2{W:zW}{b:Nat}{k:Int}{p v:zA}(h:fL W b k p v):fL (W.setCell ⟨b,2,none⟩ (.string v)) b k p v:=
 ⟨h.1.set (by decide),h.2.1.set (by decide),⟨iu _ _ _ h.2.2.1,by rw[dV];exact h.2.2.2⟩⟩
theorem AZ(k:Int)(p v s:zA)(most:Nat)(r:Int)(d:Nat)(L':List (zV×zV))(w:zW)(h:aC w I mb G L)(hl:L.length<=100000)(hk:(Lit.int .i64 k).wf=true)(hp:p.size<=281474976710656)(hv:v.size<=281474976710656)(hs:s.size<=281474976710656)(hr:G<4611686018427387904)
  (hS:ft L (plc k p v) k s most r d L'):
  zC 51 #[zP I,plc k p v,.string s,.int .i64 most] w fun e w'=>e=.returned (.int .i64 r)/\aC w' I mb (G+d) L'/\ai (fun b=>b=I\/b=mb) w w':=by
 obtain⟨U,hkey⟩:=rM k p v hk (by unfold maxLen;omega) (by unfold maxLen;omega)
 obtain⟨old,th,pP,hold⟩:∃(old:zA)(th:Bool),(∀W,rN W mb L->(Instr.lookup 69 (.map (some mb)) (plc k p v) false).run prog W=.ok (.agg #[.string old,.bool th]) W)/\Hid (if th=true then (plc k p v,txt old)∈L else ∀x∈L,x.1≠plc k p v):=by
  rcases h.map.look false gM underlying69 (mH w) hkey with⟨_,hn⟩|⟨u,hu,_⟩
  ·exact⟨⟨#[]⟩,false,fun W hW=>hW.look_none false gM underlying69 (mH W) hkey hn,hn⟩
  ·obtain⟨q,p',v',s',e⟩:=h.good _ hu
   injection e with e1 e2;subst e2;exact⟨s',true,fun W hW=>hW.look_some false gM underlying69 (mH W) hkey hu,hu⟩
 have HS:Hid (aC w I mb G L):=h;clear h;have HSp:Hid (ft L (plc k p v) k s most r d L'):=hS;clear hS hkey;go_enter func51,ntmps51;go_upto_region 1 with fail;have HB1:Hid (Below w.heap.size w (w.alloc (.cells #[.int .i64 k,.string p,.string v] 103))):=(ae _ _).alloc (af _) _;have HX1:Hid (fL (w.alloc (.cells #[.int .i64 k,.string p,.string v] 103)) w.heap.size k p v):=fL.new w k p v;have HS1:Hid (aC (w.alloc (.cells #[.int .i64 k,.string p,.string v] 103)) I mb G L):=HS.out.below HB1.out;have HZ1:Hid (w.heap.size<(w.alloc (.cells #[.int .i64 k,.string p,.string v] 103)).heap.size/\I≠w.heap.size):=⟨by simp,by have:=HS.out.f0.lt;omega⟩;generalize w.alloc (.cells #[.int .i64 k,.string p,.string v] 103)=W1 at*;generalize hbx:w.heap.size=bx at*;obtain⟨⟨x0,_⟩,⟨x1,_⟩,⟨x2,_⟩⟩:=HX1.out;have c0:=HS1.out.f0.1;have l1:=pP W1 HS1.out.map;have l2:=pP W1.drew HS1.out.map;have l3:=pP (W1.alloc (.cells #[zE,.bool false] 123)).drew ((HS1.out.below ((ae _ _).alloc (af _) _)).map);clear pP;obtain⟨⟨y0,_⟩,⟨y1,_⟩,⟨y2,_⟩⟩:=HX1.out.below ((ae _ _).alloc (af _) (.cells #[zE,.bool false] 123));have d0:(W1.alloc (.cells #[zE,.bool false] 123)).cell? ⟨I,0,none⟩=some (.map (some mb)):=(HS1.out.below ((ae _ _).alloc (af _) _)).f0.1
 go_region
 all_goals
  have HB2:Hid (Below w.heap.size w (W1.alloc (.cells #[.string old,.bool th] 123)).drew):=by
   show Below w.heap.size w _;have h:=HB1.out
   try rw[<-hbx] at h
   exact(h.alloc h.size _).drew
  have hbW:Below W1.heap.size W1 (W1.alloc (.cells #[.string old,.bool th] 123)).drew:=((ae _ _).alloc (af _) _).drew;have HS2:Hid (aC (W1.alloc (.cells #[.string old,.bool th] 123)).drew I mb G L):=HS1.out.below hbW;have HX2:Hid (fL (W1.alloc (.cells #[.string old,.bool th] 123)).drew bx k p v):=HX1.out.below hbW
  have HO2:Hid (∀W,Below (W1.alloc (.cells #[.string old,.bool th] 123)).drew.heap.size (W1.alloc (.cells #[.string old,.bool th] 123)).drew W->W.cell? ⟨W1.heap.size,0,none⟩=some (.string old)/\W.cell? ⟨W1.heap.size,1,none⟩=some (.bool th)):=fun W hb=>by
   have hbl:W1.heap.size<(W1.alloc (.cells #[.string old,.bool th] 123)).drew.heap.size:=by show W1.heap.size<(W1.heap.push _).size;simp
   exact⟨(hb.cell (p:=⟨W1.heap.size,0,none⟩) hbl).trans (by show(W1.alloc _).cell? _=_;simp),(hb.cell (p:=⟨W1.heap.size,1,none⟩) hbl).trans (by show(W1.alloc _).cell? _=_;simp)⟩
  clear hbW l1 l2 l3 x0 x1 x2 y0 y1 y2 c0 d0 HX1 HB1 HS1;generalize (W1.alloc (.cells #[.string old,.bool th] 123)).drew=W2 at*;generalize W1.heap.size=ob at*;obtain⟨⟨x0,_⟩,⟨x1,_⟩,⟨x2,_⟩⟩:=HX2.out;obtain⟨o0,o1⟩:=HO2.out W2 (ae _ _);have kc:=G1 k W2 HS2.out hl;generalize hcn:L.countP (gw k)=cn at kc;have HCN:Hid (L.countP (gw k)=cn):=hcn;clear hcn;cases th
  ·have hn:∀x∈L,x.1≠plc k p v:=by have h:=hold.out;simpa using h
   go_wp2_with (go_at_call 65;fail)
   go_at_call 65;refine kc.mono ?_;rintro e w3 ⟨rfl,hb3⟩;have HB3:Hid (Below w.heap.size w w3):=HB2.out.trans (hb3.mono HB2.out.size);have HS3:Hid (aC w3 I mb G L):=HS2.out.below hb3;have HX3:Hid (fL w3 bx k p v):=HX2.out.below hb3;obtain⟨p0,p1⟩:=HO2.out w3 hb3;clear kc x0 x1 x2 o0 o1 HX2 HO2 HS2 HB2 hb3;by_cases hmo:most<=cn
   ·have RZ:(cn:Int)>=(most:Int):=by omega
    have HF:Hid (r=4/\d=0/\L'=L):=by
     have h:=HSp.out;cases h with
     |same hi=>exact absurd rfl (hn _ hi)
     |other O7 Y hp hne=>exact absurd rfl (hn _ (hp.mem_iff.2 (bo ..)))
     |many _ _=>exact⟨rfl,rfl,rfl⟩
     |fresh _ hc=>rw[HCN.out] at hc;omega
    have e:=HF.out;obtain⟨rfl,rfl,rfl⟩:=e;go_wp2;go_ret;exact⟨rfl,HS3.out,ai.of_below HB3.out⟩
   ·have RZ:¬((cn:Int)>=(most:Int)):=by omega
    have HF:Hid (r=0/\d=1):=by
     have h:=HSp.out;cases h with
     |same hi=>exact absurd rfl (hn _ hi)
     |other O7 Y hp hne=>exact absurd rfl (hn _ (hp.mem_iff.2 (bo ..)))
     |many _ hc=>rw[HCN.out] at hc;exact absurd hc hmo
     |fresh _ _=>exact⟨rfl,rfl⟩
    have e:=HF.out;obtain⟨rfl,rfl⟩:=e;go_upto_region 6 with fail;have K3:(w3.cell? ⟨bx,1,none⟩=some (.string p)/\w3.frozen? ⟨bx,1,none⟩=false)/\(w3.cell? ⟨bx,2,none⟩=some (.string v)/\w3.frozen? ⟨bx,2,none⟩=false):=HX3.out.2
    go_region_held3 (fun w'=>(w'.cell? ⟨bx,1,none⟩=some (.string p)/\w'.frozen? ⟨bx,1,none⟩=false)/\(w'.cell? ⟨bx,2,none⟩=some (.string v)/\w'.frozen? ⟨bx,2,none⟩=false))
     (first|exact K3|exact KA.out.2|exact KB.out.2|exact KC.out.2|exact KD.out.2)
     (first
      |(go_at_call 66;(with_reducible show Calls _ _ #[Value.string p] _ _);refine(gZ p _ hp).mono ?_;rintro e wA ⟨rfl,hbA⟩;have KA:Hid (fL wA bx k p v):=HX3.out.below ((ae w3.heap.size w3).drew.trans hbA);have HBA:Hid (Below w3.heap.size w3 wA):=(ae w3.heap.size w3).drew.trans hbA;clear hbA)
      |(go_at_call 66;refine(gZ v _ hv).mono ?_;rintro e wB ⟨rfl,hbB⟩;have KB:Hid (fL wB bx k p v):=KA.out.below hbB;have HBB:Hid (Below w3.heap.size w3 wB):=HBA.out.trans (hbB.mono HBA.out.size);have KC:Hid (fL (wB.setCell ⟨bx,1,none⟩ (.string p)) bx k p v):=KB.out.set1;have KD:Hid (fL ((wB.setCell ⟨bx,1,none⟩ (.string p)).setCell ⟨bx,2,none⟩ (.string v)) bx k p v):=KC.out.set2;clear hbB))
    all_goals
     have hsl:I<bx/\mb<bx:=by have h1:=HS.out.f0.lt;have h2:=HS.out.map.lt;omega
     have HT5:Hid (ai (fun b=>b=I\/b=mb) w ((wB.setCell ⟨bx,1,none⟩ (.string p)).setCell ⟨bx,2,none⟩ (.string v))):=by
      have h1:ai (fun b=>b=I\/b=mb) w wB:=(ai.of_below HB3.out).more HBB.out;exact(h1.set (a:=⟨bx,1,none⟩) (fun h=>by have h2:bx<w.heap.size:=h;omega) _).set (a:=⟨bx,2,none⟩) (fun h=>by have h2:bx<w.heap.size:=h;omega) _
     have HS5:Hid (aC ((wB.setCell ⟨bx,1,none⟩ (.string p)).setCell ⟨bx,2,none⟩ (.string v)) I mb G L):=by
      have e1:∀b,b≠bx->((wB.setCell ⟨bx,1,none⟩ (.string p)).setCell ⟨bx,2,none⟩ (.string v)).heap[b]?=wB.heap[b]?:=fun b hne=>by
       rw[aM _ _ _ _ hne,aM _ _ _ _ hne]
      exact(HS3.out.below HBB.out).of_block (e1 I (by omega)) (e1 mb (by omega))
     have HX5:Hid (fL ((wB.setCell ⟨bx,1,none⟩ (.string p)).setCell ⟨bx,2,none⟩ (.string v)) bx k p v):=KD;clear KA KB KC KD HBA HBB HS3 HX3 HB3 K3;generalize (wB.setCell ⟨bx,1,none⟩ (.string p)).setCell ⟨bx,2,none⟩ (.string v)=W5 at*;go_upto_region 7 with fail;have K5:W5.cell? ⟨I,0,none⟩=some (.map (some mb))/\W5.cell? ⟨bx,0,none⟩=some (.int .i64 k)/\W5.cell? ⟨bx,1,none⟩=some (.string p)/\W5.cell? ⟨bx,2,none⟩=some (.string v):=⟨HS5.out.f0.1,HX5.out.1.1,HX5.out.2.1.1,HX5.out.2.2.1⟩
     have kst:∀W,Below W5.heap.size W5 W->∃w7,(Instr.mapUpdate 69 (.map (some mb)) (plc k p v) (txt s)).run prog W=.ok () w7/\Hid (aC w7 I mb G L')/\Hid (ai (fun b=>b=I\/b=mb) w w7)/\Hid (fL w7 bx k p v)/\Hid (aC W I mb G L)/\Hid (fL W bx k p v):=fun W hb=>by
      have h1:=HS5.out.below hb;obtain⟨w7,hrun,h2,h3⟩:=h1.stored HSp.out rfl hl hk (by unfold maxLen;omega) (by unfold maxLen;omega);refine⟨w7,hrun,h2,(HT5.out.more hb).trans h3 (fun _ _ e=>e) (fun _ _ e=>Or.inr e),(HX5.out.below hb).of_block (h3.block bx (bE HX5.out.lt hb.size) (by omega)),h1,HX5.out.below hb⟩
     clear HS5 HX5 HT5
     go_region_held3 (fun w'=>w'.cell? ⟨I,0,none⟩=some (.map (some mb))/\w'.cell? ⟨bx,0,none⟩=some (.int .i64 k)/\w'.cell? ⟨bx,1,none⟩=some (.string p)/\w'.cell? ⟨bx,2,none⟩=some (.string v))
      (first|exact K5|exact⟨HS6.out.f0.1,HX6.out.1.1,HX6.out.2.1.1,HX6.out.2.2.1⟩|exact⟨HS7.out.f0.1,HX7.out.1.1,HX7.out.2.1.1,HX7.out.2.2.1⟩)
      (first|(go_at_call 66;refine(gZ s _ hs).mono ?_;rintro e w6 ⟨rfl,hb6⟩;obtain⟨w7,hrun,HS7,HT7,HX7,HS6,HX6⟩:=kst w6 ((ae W5.heap.size W5).drew.trans hb6);clear hb6))
     all_goals
      clear hrun kst K5 HX7 HS6 HX6;have g1:=HS7.out.f1.1;have g2:=HS7.out.f1.2;have e2:IntKind.i64.wrap ((G:Int)+1)=(G:Int)+1:=by simp[IntKind.wrap,IntKind.bits,IntKind.signed];omega
      have HS8:Hid (aC (w7.setCell ⟨I,1,none⟩ (.int .i64 ((G:Int)+1))) I mb (G+1) L'):=HS7.out.bump;have HT8:Hid (ai (fun b=>b=I\/b=mb) w (w7.setCell ⟨I,1,none⟩ (.int .i64 ((G:Int)+1)))):=HT7.out.set (a:=⟨I,1,none⟩) (fun _=>Or.inl rfl) _;clear HS7 HT7;go_wp2;go_ret;exact⟨rfl,HS8.out,HT8.out⟩
  ·have hin:(plc k p v,txt old)∈L:=by have h:=hold.out;simpa using h
   cases hq:(old.toList==s.toList)
   ·have HF:Hid (r=0/\d=1):=by
     have h:=HSp.out;cases h with
     |same hi=>
      have e:=Mp.uniq HS2.out.map.apart hin hi;injection e with e;simp only[Array.mk.injEq,eH,Value.string.injEq,fe] at e;rw[e] at hq;simp at hq
     |other O7 Y hp hne=>exact⟨rfl,rfl⟩
     |many hn _=>exact absurd rfl (hn _ hin)
     |fresh hn _=>exact absurd rfl (hn _ hin)
    have e:=HF.out;obtain⟨rfl,rfl⟩:=e;have HB3:Hid (Below w.heap.size w W2):=HB2;have HS3:Hid (aC W2 I mb G L):=HS2;have HX3:Hid (fL W2 bx k p v):=HX2;clear kc HB2 HS2 HX2 HO2;go_upto_region 6 with fail;have K3:(W2.cell? ⟨bx,1,none⟩=some (.string p)/\W2.frozen? ⟨bx,1,none⟩=false)/\(W2.cell? ⟨bx,2,none⟩=some (.string v)/\W2.frozen? ⟨bx,2,none⟩=false):=HX3.out.2
    go_region_held3 (fun w'=>(w'.cell? ⟨bx,1,none⟩=some (.string p)/\w'.frozen? ⟨bx,1,none⟩=false)/\(w'.cell? ⟨bx,2,none⟩=some (.string v)/\w'.frozen? ⟨bx,2,none⟩=false))
     (first|exact K3|exact KA.out.2|exact KB.out.2|exact KC.out.2|exact KD.out.2)
     (first
      |(go_at_call 66;(with_reducible show Calls _ _ #[Value.string p] _ _);refine(gZ p _ hp).mono ?_;rintro e wA ⟨rfl,hbA⟩;have KA:Hid (fL wA bx k p v):=HX3.out.below ((ae W2.heap.size W2).drew.trans hbA);have HBA:Hid (Below W2.heap.size W2 wA):=(ae W2.heap.size W2).drew.trans hbA;clear hbA)
      |(go_at_call 66;refine(gZ v _ hv).mono ?_;rintro e wB ⟨rfl,hbB⟩;have KB:Hid (fL wB bx k p v):=KA.out.below hbB;have HBB:Hid (Below W2.heap.size W2 wB):=HBA.out.trans (hbB.mono HBA.out.size);have KC:Hid (fL (wB.setCell ⟨bx,1,none⟩ (.string p)) bx k p v):=KB.out.set1;have KD:Hid (fL ((wB.setCell ⟨bx,1,none⟩ (.string p)).setCell ⟨bx,2,none⟩ (.string v)) bx k p v):=KC.out.set2;clear hbB))
    all_goals
     have hsl:I<bx/\mb<bx:=by have h1:=HS.out.f0.lt;have h2:=HS.out.map.lt;omega
     have HT5:Hid (ai (fun b=>b=I\/b=mb) w ((wB.setCell ⟨bx,1,none⟩ (.string p)).setCell ⟨bx,2,none⟩ (.string v))):=by
      have h1:ai (fun b=>b=I\/b=mb) w wB:=(ai.of_below HB3.out).more HBB.out;exact(h1.set (a:=⟨bx,1,none⟩) (fun h=>by have h2:bx<w.heap.size:=h;omega) _).set (a:=⟨bx,2,none⟩) (fun h=>by have h2:bx<w.heap.size:=h;omega) _
     have HS5:Hid (aC ((wB.setCell ⟨bx,1,none⟩ (.string p)).setCell ⟨bx,2,none⟩ (.string v)) I mb G L):=by
      have e1:∀b,b≠bx->((wB.setCell ⟨bx,1,none⟩ (.string p)).setCell ⟨bx,2,none⟩ (.string v)).heap[b]?=wB.heap[b]?:=fun b hne=>by
       rw[aM _ _ _ _ hne,aM _ _ _ _ hne]
      exact(HS3.out.below HBB.out).of_block (e1 I (by omega)) (e1 mb (by omega))
     have HX5:Hid (fL ((wB.setCell ⟨bx,1,none⟩ (.string p)).setCell ⟨bx,2,none⟩ (.string v)) bx k p v):=KD;clear KA KB KC KD HBA HBB HS3 HX3 HB3 K3;generalize (wB.setCell ⟨bx,1,none⟩ (.string p)).setCell ⟨bx,2,none⟩ (.string v)=W5 at*;go_upto_region 7 with fail;have K5:W5.cell? ⟨I,0,none⟩=some (.map (some mb))/\W5.cell? ⟨bx,0,none⟩=some (.int .i64 k)/\W5.cell? ⟨bx,1,none⟩=some (.string p)/\W5.cell? ⟨bx,2,none⟩=some (.string v):=⟨HS5.out.f0.1,HX5.out.1.1,HX5.out.2.1.1,HX5.out.2.2.1⟩
     have kst:∀W,Below W5.heap.size W5 W->∃w7,(Instr.mapUpdate 69 (.map (some mb)) (plc k p v) (txt s)).run prog W=.ok () w7/\Hid (aC w7 I mb G L')/\Hid (ai (fun b=>b=I\/b=mb) w w7)/\Hid (fL w7 bx k p v)/\Hid (aC W I mb G L)/\Hid (fL W bx k p v):=fun W hb=>by
      have h1:=HS5.out.below hb;obtain⟨w7,hrun,h2,h3⟩:=h1.stored HSp.out rfl hl hk (by unfold maxLen;omega) (by unfold maxLen;omega);refine⟨w7,hrun,h2,(HT5.out.more hb).trans h3 (fun _ _ e=>e) (fun _ _ e=>Or.inr e),(HX5.out.below hb).of_block (h3.block bx (bE HX5.out.lt hb.size) (by omega)),h1,HX5.out.below hb⟩
     clear HS5 HX5 HT5
     go_region_held3 (fun w'=>w'.cell? ⟨I,0,none⟩=some (.map (some mb))/\w'.cell? ⟨bx,0,none⟩=some (.int .i64 k)/\w'.cell? ⟨bx,1,none⟩=some (.string p)/\w'.cell? ⟨bx,2,none⟩=some (.string v))
      (first|exact K5|exact⟨HS6.out.f0.1,HX6.out.1.1,HX6.out.2.1.1,HX6.out.2.2.1⟩|exact⟨HS7.out.f0.1,HX7.out.1.1,HX7.out.2.1.1,HX7.out.2.2.1⟩)
      (first|(go_at_call 66;refine(gZ s _ hs).mono ?_;rintro e w6 ⟨rfl,hb6⟩;obtain⟨w7,hrun,HS7,HT7,HX7,HS6,HX6⟩:=kst w6 ((ae W5.heap.size W5).drew.trans hb6);clear hb6))
     all_goals
      clear hrun kst K5 HX7 HS6 HX6;have g1:=HS7.out.f1.1;have g2:=HS7.out.f1.2;have e2:IntKind.i64.wrap ((G:Int)+1)=(G:Int)+1:=by simp[IntKind.wrap,IntKind.bits,IntKind.signed];omega
      have HS8:Hid (aC (w7.setCell ⟨I,1,none⟩ (.int .i64 ((G:Int)+1))) I mb (G+1) L'):=HS7.out.bump;have HT8:Hid (ai (fun b=>b=I\/b=mb) w (w7.setCell ⟨I,1,none⟩ (.int .i64 ((G:Int)+1)))):=HT7.out.set (a:=⟨I,1,none⟩) (fun _=>Or.inl rfl) _;clear HS7 HT7;go_wp2;go_ret;exact⟨rfl,HS8.out,HT8.out⟩
   ·have HF:Hid (r=0/\d=0/\L'=L):=by
     have h:=HSp.out;cases h with
     |same _=>exact⟨rfl,rfl,rfl⟩
     |other O7 Y hp hne=>
      have e:=Mp.uniq HS2.out.map.apart hin (hp.mem_iff.2 (bo ..));injection e with e;simp only[Array.mk.injEq,eH,Value.string.injEq,fe] at e;rw[e,hne] at hq;cases hq
     |many hn _=>exact absurd rfl (hn _ hin)
     |fresh hn _=>exact absurd rfl (hn _ hin)
    have e:=HF.out;obtain⟨rfl,rfl,rfl⟩:=e;clear kc;go_wp2;go_ret;exact⟨rfl,HS2.out,ai.of_below HB2.out⟩
