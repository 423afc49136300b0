import Derived.Test.YtkfobfbiblgohaaGreatDoorKFF2
import Derived.Deep.DeepHandedRow
import Derived.Test.YtkfobfbiblgohaaGreatDoorTie
import Derived.Test.YtkfobfbiblgohaaGreatDoorCards
set_option linter.all false
open Go.Proofs.Tryz
set_option maxRecDepth 100000
set_option maxHeartbeats 100000000
namespace Go.Proofs.YtkfobfbiblgohaaGreatDoor
section
open Go.ChangeShapes Go.WideShapes Go.ChangeAt Go.RowKit Go.Deep Go.Joins
namespace Lk
theorem zh:laidOutB prog=true:=by kernel_rfl
theorem Uy:ownKnob prog.godebug=none:=by kernel_rfl
theorem J4(os:Os)(args:Array zV):laidMetH prog Rows.frugalRow.laid ((World.laidAll prog os Rows.frugalRow.laid).forCall (fun _ _=>0) ⟨#[],args,[]⟩).memory:=by
 rw[MakeChecks.laidMetH_plain _ _ _ (by kernel_rfl)];exact laidMet_laidAll _ (by kernel_rfl) (by kernel_rfl)
abbrev zA:Array zV:=#[zN,zN,zN,zI 0,zI 0,zI 0]
theorem Pj(os:Os)(F:os.Started)(H:Type)(enc:TypeId×zV->H):
  ReturnsInHanded {} checked os 3 .any (fun w args=>(Rows.frugalSpec.pre enc prog f3 [] false w args/\laidMetH prog Rows.frugalRow.laid w)/\sizedMet enc prog f3 (OpenSpec.ofChange Rows.frugalSpec) false w args)
   (Rows.frugalSpec.post enc prog f3 false true false false):=by
 refine returnsInHanded_of_calls (C:=checked) Uy F (by kernel_rfl)
  (ChangeSpec.witness_shaped (enc:=enc) (C:=checked) (os:=os) (X:=fun w _=>laidMetH prog Rows.frugalRow.laid w) false (World.laidAll prog os Rows.frugalRow.laid) zA 8 (World.laidAll_os _ _ _) (World.shaped_of_ZipB (by kernel_rfl) (by kernel_rfl)) (by kernel_rfl) (by kernel_rfl) (by kernel_rfl) (J4 os _)) ?_
 intro w tape i _ a9 _ a8 a4 _;obtain⟨_,_,_,a6,a3,_,_,_,_,PO⟩:=a8;have e:a6=f3:=bL (a3.symm.trans func3);subst e;obtain⟨_,_,ds,gs,a5,hw,V⟩:=a4;have hW:=DataW.Whole.of_heap (w':=w.forCall tape i) (by rfl) hw;obtain⟨G,args,vars⟩:=i;have hm:Ml (w.forCall tape ⟨G,args,vars⟩):=Go.Proofs.cell_of_shapedOpen_int (zero:=#[zI 0]) (t:=3) a9 (gD (by kernel_rfl)) (by kernel_rfl) rfl (by kernel_rfl) (by kernel_rfl) underlying3;generalize w.forCall tape ⟨G,args,vars⟩=W at hW hm PO ⊢;have E:∀(j:Nat) t v,f3.params[j]?=some t->args[j]?=some v->Value.okWide prog W .any w.heap.size t v:=PO;have a0:=hW;obtain⟨p,q,Y,hV,rfl,au,av⟩:=hW;have hA:DataW.TrodAll enc prog W 0 (fun _=>true) true f3.params.toList args.toList ds p:=Y;rw[params3] at hA E;obtain⟨v0,az,d0,aa,p0,q0,a7,rfl,rfl,h0,r0⟩:=trodAll_cons hA;obtain⟨v1,b0,d1,ab,p1,q1,Uz,rfl,rfl,h1,r1⟩:=trodAll_cons r0;obtain⟨v2,b3,d2,ad,p2,q2,UA,rfl,rfl,h2,r2⟩:=trodAll_cons r1;obtain⟨v3,b4,d3,ak,p3,q3,UB,rfl,rfl,h3,r3⟩:=trodAll_cons r2;obtain⟨v4,b5,d4,an,p4,q4,UC,rfl,rfl,h4,r4⟩:=trodAll_cons r3;obtain⟨v5,b6,d5,aq,p5,q5,UD,rfl,rfl,h5,r5⟩:=trodAll_cons r4;obtain⟨rfl,rfl,rfl⟩:=trodAll_nil r5;obtain rfl:args=#[v0,v1,v2,v3,v4,v5]:=by cases args;simp_all
 obtain⟨rfl,rfl⟩:=trodVars_none hV;have U:=a0.lt
 have hz:(d0.weights prog 22).all (·<=reachBytes)=true:=by
  rw[params3] at V;simp only[mJ,DataW.weightsEach,List.all_append,fC] at V;exact V.1
 obtain⟨O,a1,a2⟩:=Nh (E 0 22 v0 rfl rfl) h0 hz;obtain⟨ta,tm,TB,rfl⟩:=okWide_slice underlying23 (E 1 23 v1 rfl rfl);obtain⟨ra,rm,TC,rfl⟩:=okWide_slice underlying24 (E 2 24 v2 rfl rfl);obtain⟨TD,I⟩:=id h1;obtain⟨TE,M⟩:=id h2;have I:DataW.trod enc prog W 0 (fun _=>true) true TD 23 [.slice ta tm TB]=some (d1,p1):=I;have M:DataW.trod enc prog W 0 (fun _=>true) true TE 24 [.slice ra rm TC]=some (d2,p2):=M;obtain⟨T,b1,b2⟩:=Cy I;obtain⟨LL,c1⟩:=Ng M;obtain⟨p,rfl,rfl,rfl,wp⟩:=open_int underlying3 (E 3 3 v3 rfl rfl) h3;obtain⟨v,rfl,rfl,rfl,wv⟩:=open_int underlying3 (E 4 3 v4 rfl rfl) h4;obtain⟨k,rfl,rfl,rfl,wk⟩:=open_int underlying3 (E 5 3 v5 rfl rfl) h5;clear Y PO E;refine(F8 v0 (.slice ta tm TB) (.slice ra rm TC) O T LL p v k (by omega) b2 (bounds_i64 wp) (bounds_i64 wv) (bounds_i64 wk) W hm a1 b1 c1).mono fun e W' ⟨he,hg⟩=>?_
 subst he;have t0:=Below.trod zh (by kernel_rfl) (gD (by kernel_rfl)) h0 hg (fun x hx=>U x (by simp[hx]));have t1:=Below.trod zh (by kernel_rfl) (gD (by kernel_rfl)) h1 hg (fun x hx=>U x (by simp[hx]));have t2:=Below.trod zh (by kernel_rfl) (gD (by kernel_rfl)) h2 hg (fun x hx=>U x (by simp[hx]))
 have hp:Rows.frugalSpec.post enc prog f3 false true false false W _ (.bool true) W':=
  ⟨_,_,_,[],_,[],a0,trodAll_cons_mk (shut_bool underlying4 _) trodAll_mk0,trodAll_cons_mk t0 (trodAll_cons_mk t1 (trodAll_cons_mk t2 (trodAll_cons_mk (shut_int underlying3 wp) (trodAll_cons_mk (shut_int underlying3 wv) (trodAll_cons_mk (shut_int underlying3 wk) trodAll_mk0))))),rfl,hg.frame _,fun h=>by cases h⟩
 exact ChangeSpec.post_blind hp
end Lk
end
section
open Go.ChangeShapes Go.WideShapes Go.ChangeAt Go.RowKit
theorem Nn:prog.funcNamed Rows.frugalRow.func=some 3:=by kernel_rfl
theorem Pk:joinedFacts prog 3 f3 Rows.frugalSpec Rows.frugalRow=true:=by
 unfold joinedFacts
 repeat (rw[fC];refine⟨?_,?_⟩;rotate_left;(as_aux_lemma=>kernel_rfl))
 as_aux_lemma=>kernel_rfl
theorem TG:f3.isInstance prog Rows.frugalRow.origin Rows.frugalRow.targs:=gD (by kernel_rfl)
theorem TH:f3.isWrapper prog Rows.frugalRow.wrapper Rows.frugalRow.mainSum:=by
 unfold Func.isWrapper
 first
  |(rw[aj (by decide+kernel)];kernel_rfl)
  |(rw[ag (by decide+kernel)];exact⟨rfl,rfl⟩)
end
section
open Go.ChangeShapes Go.WideShapes Go.ChangeAt Go.RowKit
theorem frugal_row:Rows.FrugalSaid:=
 OpenClaim.holds_of_wide 3 f3 rfl rfl rfl rfl rfl rfl rfl ⟨rfl,rfl,rfl,rfl,rfl⟩ rfl rfl rfl rfl rfl Nn func3 Pk TG TH
  (fun os E H enc _=>Lk.Pj os E H enc)
theorem frugal_card:Rows.FrugalCardSaid:=
 Claim7.holds_tied_plain_at .later [] _ _ _ _
  frugal_row (fun _ h=>by cases h) (by as_aux_lemma=>kernel_rfl) (fun _ h=>by cases h) frugal_row_tie rfl ⟨rfl,rfl⟩ (by as_aux_lemma=>kernel_rfl) rfl
  (fun f fn I F=>by
   obtain rfl:f=3:=bL (Nn.symm.trans I) |>.symm
   obtain rfl:fn=f3:=(bL (func3.symm.trans F)).symm
   exact⟨by as_aux_lemma=>kernel_rfl,fun j t G=>by
    rw[params3] at G;have hm:t∈[22,23,24,3,3,3]:=by simpa using Array.mem_of_getElem? G
    have E:([22,23,24,3,3,3].all fun u=>!prog.wantsStandIn u)=true:=by as_aux_lemma=>kernel_rfl
    exact(show prog.wantsStandIn t=false by simpa using jX.1 E t hm)⟩)
  (by as_aux_lemma=>kernel_rfl)
