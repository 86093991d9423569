import PyProof.Rows.All
import Wide.All
import OpenK.KLine
import OpenK.KOwn
import Wide.FinOn
import Lean
import PyProof.EqAt
import PyProof.EqKinds
import PyProof.TupleCall
import KE.KMinKey
import KE.KSortTup
import KE.KRevSl
import KE.KStateDown
import PyProof.Rows.Range3
import KE.KDictOf
import PyProof.AttrMissSeq
import KE.KRevIter
import KE.KItemsList
import KE.KPairComp
import KE.KEqDict
import KE.KDictSum
import KE.RegKIsAll
import KE.KNest
import KE.KClos
import PyProof.Draws
import PyProof.EnumMake
import KE.KLam
import PyProof.AutoListH
import KE.KDictLaws
import PyProof.StrLawsTight
import PySem.Challenge.RW_depot_k76_no_plan_no_bin
set_option Elab.async false
set_option linter.all false
set_option maxRecDepth 100000
set_option maxHeartbeats 4000000
set_option compiler.extract_closed false
open Option renaming some->aj,none->aq,some->jk,map_eq_some_iff->za,isSome_iff_exists->a0q,none->a1c
open Bool renaming true->ak,false->ao,and_eq_true->bw,not_eq_true'->gq,false_ne_true->ou,false_eq_true->qe,or_eq_true->a0i,and_false->a1J,false_xor->a2r
open PySem renaming wpAny_bind->au,Value->bh,Addr->bx,Shared->cj,wpAny->cu,sizeLine->dg,wpAny_pure->dh,model->fj,Around->iw,World->iy,starEach->je,Expr->jf,compareOp->jg,mainGlobals->ji,Heap->jj,bootBuiltins->jr,Program->jt,FuncData->ju,cLine->kh,Stmt->kj,wpAny_mono->lg,wpAny_newObj_type->ni,NameKind->nj,wpAny_field->oh,wpAny_holding->qb,Scope->uh,wpAny_truthy_bool->um,sysModules->vd,wpAny_setField->vh,tupleKind_room_in1->vq,binaryOp->wg,wpAny_seqItems->wz,codeAny_builtin->xr,CmpOp->yc,rawInt->yg,backTo->yh,wpAny_Call_Name_kw->yp,behindInMarks->yq,codeAny->yu,wpAny_tryCatch->yw,wpAny_callSpecial?_slot->yx,pyNext->zc,plainId_quiet->zf,bindArgs->zj,cellsFrom->zm,wpAny_letGo->zp,tupleKind->zu,attributeBase->zx,wpAny_typeNameOfWhole_keyiter->zy,wpAny_call_entry->a0b,assignEach->a0e,wpAny_pyIter_tuple->a0f,holding->a0g,foldedSetIterable->a0l,lookup_relabel_local->a0m,ExcBaseFacts->a0r,wpAny_typeNameOf_keyiter->a0s,wpAny_getItem_str_slice->a0u,seqItems?->a0w,wpAny_rule->a0x,swapsWith->a0z,wpAny_updateSeq->a1a,wpAny_standAt->a1h,IsRangeIter->a1j,storedH->a1k,richCompare->a1l,sliceBounds->a1m,letOwnedTupleGo->a1p,wpAny_passesOwn->a1q,firstArgMember->a1x,builtinsNs->a1y,wpAny_pyIter_enum->a2b,wpAny_attempt->a2e
open PySem.Heap renaming get?_push_of_some->cg,lt_size->gk,get?_push_size->gV,get?_update_other->mz,SameBut->qw,get?_update_self->vg,size_push->wu,ExtBut->a1i,MadeExcOf->a2q
open List renaming size_toArray->dj,getElem?_eq_some_iff->gj,getElem?_eq_getElem->gw,length_map->jc,mem_cons->jm,lookup_cons->jo,all_eq_true->jq,mem_cons_of_mem->jw,range->jy,mem_map->jz,mem_of_getElem?->lq,map_map->mj,getElem?_map->nu,getElem?_append_left->pq,map_cons->qd,not_mem_nil->qj,mem_cons_self->qu,mem_append_right->qy,getElem?_set_ne->rm,mem_singleton->su,length_cons->ug,getElem?_append_right->uo,nodup_cons->vo,length_append->vp,length_take->wj,all_cons->wk,mem_range->xg,mem_append->xu,map_append->zq,filter_cons->a0c,forIn_cons->a0h,replicate->a0o,take_length->a0t,any_cons->a0v,find?_cons->a0V,getD->a1b,getElem?_eq_none->a1e,mem_append_left->a1f,filterMap_cons->a1n,map_congr_left->a1o,append_nil->a1r,mem_filterMap->a1u,getElem?_take_of_lt->a1w,nodup_nil->a1B,getElem?_cons_zero->a2a,getElem?_set_self->a2c,lookup->a2d,cons_append->a2f,any_eq_true->a2g,mem_filter->a2k,of_mem_zip->a2l,length_nil->a2m,map_nil->a2n,filter_eq_self->a2p,take_succ->a2s
open Nat renaming le_refl->dw,lt_of_lt_of_le->iz,ne_of_lt->jd,le_trans->qz,lt_irrefl->ud,le_of_lt->ur,zero_le->vm,ne_of_gt->yj,lt_succ_of_lt->a1d,le_add_right->a1g,min_eq_left->a1s,le_of_eq->a1v
open PySem.W renaming Frag->ig,kitOne->iu,nsIn->mq,findIn->qg,fnOf->qx,keepIn->tu,subIn->uf,Looks->uq,clsIn->vf,emptyDict->xq,kia_one->yd,excIn->yt,mg_of->a0k,typeIn->a0p,instObj->a0y,codeIn->a1z,Hook->a2i,hideAll->a2j
open PyProof.Rows renaming seqObj->uw,IntsAre->a0d
open Int renaming toNat_natCast->ux,le_refl->a0n,le_of_lt->a2o
open Array renaming length_toList->a0a,getElem?_eq_some_iff->a0j,getElem?_eq_getElem->a1t,getElem?_toList->a2h
namespace Law
open PySem PySem.W PyProof.Rows
noncomputable def pL(n:Nat):kj:=PySem.Challenge.pw_depot_k76_no_plan_no_bin.main.body.getD n (.Pass ⟨0,0,0,0⟩)
noncomputable def frQ:jt:={PySem.Challenge.pw_depot_k76_no_plan_no_bin with main:={PySem.Challenge.pw_depot_k76_no_plan_no_bin.main with body:=[pL 1,pL 2,pL 3,pL 4,pL 5,pL 6,pL 7,pL 9,pL 10,pL 11,pL 12,pL 14,pL 15,pL 16,pL 17,pL 18,pL 19,pL 21,pL 23,pL 24,pL 25,pL 26,pL 27,pL 28,pL 29,pL 30,pL 31,pL 32,pL 33,pL 34,pL 35,pL 37,pL 39,pL 40,pL 41,pL 42,pL 43,pL 44,pL 45,pL 46,pL 47]}}
theorem frB{p:jt}{α:Type}{Yf:cj->α}{Ya:iy->α}{N:Nat}{g0:Bool}
  (e:opening p=plainProg p.main.scope.names)(hN:Nat.ble 600 N=ak)(f:∀s,fenceModules? p s=aj s)
  (h:∀(w:iy)(os:OsState),(topFrom treeTable p w N ⟨boot_heap w.params,#[],boot_drawn,boot_toks,os⟩).map (λs=>(openSeen q loose (importedModules p.main.body) Xt g0 s,Yf s))=aj (openGood q loose,Ya w)) :
  LeftO p q loose Xt Yf Ya N g0:=λw=>by
 obtain⟨⟨h1,gs,d,k,os⟩,e1,e'⟩:=za.mp (boot_open e hN f w);obtain⟨rfl,rfl,rfl,rfl⟩:h1=boot_heap w.params/\gs=#[]/\d=boot_drawn/\k=boot_toks:=by simpa using e'
 unfold openEnds;rw[e1];exact h w os
noncomputable abbrev frX:cj->Bool:=λs=>xlAt frQ [] s&&recOk (RowW.records (OpenRow.toRowW (OpenLaw.row PySem.Challenge.rw_depot_k76_no_plan_no_bin))) s
end Law
local macro_rules
 | `(tactic| o_head $H)=>`(tactic| refine PySem.W.holds_open (q:=Law.frQ) (loose:=[]) (Xt:=Law.frX) (XP:=PySem.W.XL Law.frQ []) (Yf:=a2i.obs $H) (Ya:=a2i.val $H)
     (YP:=a2i.says $H) (N:=5060) ?hl (a2i.of $H) (a2i.keeps $H) (λs e=>PySem.W.xl_of s (Bool.and_eq_true_iff.mp e).1) PySem.W.XL.keeps (by rfl) (by rfl) (by rfl)
     (λs e=>PySem.W.recFacts_of (Bool.and_eq_true_iff.mp e).2) (by rfl) (by first|assumption|decide+kernel) (by decide+kernel) ⟨rfl,rfl,rfl,rfl,rfl,by decide+kernel⟩ ?hw ?hc)
open PySem PySem.W in
theorem Law.frK(h0:∀{α:Type}(Yf:cj->α)(Ya:iy->α),LeftO (OpenLaw.row PySem.Challenge.rw_depot_k76_no_plan_no_bin).prog Law.frQ [] Law.frX Yf Ya 5060)
  (h1:∀YP d,WalkO Law.frQ [] (XL Law.frQ []) YP (OpenRow.toRowW (OpenLaw.row PySem.Challenge.rw_depot_k76_no_plan_no_bin)) d [] (λf vs=>PySem.call f vs)):OpenLaw.Holds PySem.Challenge.rw_depot_k76_no_plan_no_bin:=by
 w_on;o_law;k_head
 case hl=>exact h0 _ _
 case hw=>w_witness2
 exact h1 _ _
noncomputable abbrev Law.frA:List Nat:=[2,3,15,22,23,24,25,28,35,36,37,40,47,48,49,52,59,60,61,64,71,72,73,76,83,84,85,88,95,96,97,100,102,103,105,106,107,109,110,112,113,114,116,117,119,120,121,123,124,126,127,128,130,131,133,134,135,137,138,140,141,142,144,145,147,148,149,151,152,154,155,156,157,160,161,162,164,165,167,168,169,171,172,174,175,176,178,179,181,182,183,185,186,188,189,190,192,193,195,196,197,199,200,202,203,204,206,207,209,210,211,213,214,216,217,218,221,222,223,226,227,228,231,232,233,236,237,238,240,241,243,244,245,247,248,250,251,252,254,255,257,258,259,261,262,264,265,266,268,269,271,272,273,275,276,278,279,280,282,283,285,286,287,290,291,292,295,296]
theorem Law.frE:∀P,Law.frA=(Law.frK.heap_39 P).map (·.1):=λ_=>by kernel_rfl
open PySem PySem.W in
theorem Law.frL:LeftO (OpenLaw.row PySem.Challenge.rw_depot_k76_no_plan_no_bin).prog Law.frQ [] Law.frX (Hook.obs (kHook Law.frK.heap_39 Law.frA Law.frE)) (Hook.val (kHook Law.frK.heap_39 Law.frA Law.frE)) 5060 :=
 Law.frB (by kernel_rfl) (by kernel_rfl) (λs=>by kernel_rfl) (λw os=>by kernel_rfl)
local macro_rules|`(tactic|omega)=>`(tactic|first|lia|omega (config := {}))
set_option tactic.hygienic false
namespace L2
open PySem PySem.Spec PyProof.Rows
variable{b:bx}{x:Str}
section
structure Tr(B:jj)(x:bx)(C fl:bh)(h:jj):Prop where
 ex:∃(o:Obj)(vs:Array bh)(T:bx)(oT:Obj)(ts:Array bh),h.get? x=aj o/\o.cls=C/\o.data=.fields vs/\vs[1]?=aj (.ref T)/\vs[2]?=aj .none/\B.get? T=aq/\T≠x/\h.get? T=aj oT/\oT.data=.fields ts/\ts[3]?=aj fl
structure aaY(B:jj)(l:List Env)(x:bx)(C fl:bh)(h:jj):Prop where
 stays:B.StaysIn h
 new:B.get? x=aq
 aAJ:h.FunFrames B l
 tr:Tr B x C fl h
abbrev Fly(B:jj)(l:List Env)(x:bx)(C:bh)(h:jj):Prop:=aaY B l x C .none h
variable{o:Obj}{i:Nat}
section
variable{A:iw}{s:cj}{B:jj}{env:Env}{outer:List Env}{x:bx}{fl:bh}
theorem aaY.fld{h:jj}(f:aaY B l x C fl h):∃o vs,h.get? x=aj o/\o.cls=C/\o.data=.fields vs/\vs[2]?=aj .none:=by
 obtain⟨o,vs,_,_,_,h1,h2,h3,_,h5,_⟩:=f.tr.ex;exact⟨o,vs,h1,h2,h3,h5⟩
theorem mF{h:jj}{vs:Array bh}(e:h.get? a=aj o)(d:o.data=.fields vs) :
  (h.update a (Obj.mapFields (·.setIfInBounds i v))).get? a=aj (Obj.mapFields (·.setIfInBounds i v) o)/\(Obj.mapFields (·.setIfInBounds i v) o).data=.fields (vs.setIfInBounds i v)/\(Obj.mapFields (·.setIfInBounds i v) o).cls=o.cls /\
  (∀b,b≠a->(h.update a (Obj.mapFields (·.setIfInBounds i v))).get? b=h.get? b):=by
 have d':=Obj.data_mapFields d (·.setIfInBounds i v);exact⟨vg _ e (Obj.isFreed_of_fields d'),d',Obj.cls_mapFields _ _,λb hb=>mz _ _ (Ne.symm hb)⟩
theorem wF{h:jj}{u:Obj}(e:h.get? a=aj o)(d:o.data=.fields vs)(e2:h.get? b=aj u)(n:∀ws,u.data≠.fields ws):b≠a:=λq=>by
 subst q;rw[e]at e2;cases e2;exact n vs d
theorem a4D(f:aaY B l x C fl s.heap)(h:∀h',Fly B l x C h'->s.heap.UpToSlots h'->Q () {s with heap:=h' }):cu M A (setFlight (.ref x) aq) Q E s:=by
 obtain⟨st,nw,fu,⟨o,vs,T,oT,ts,e1,e2,e3,e4,e5,e6,e7,e8,e9,e10⟩⟩:=f;unfold setFlight;refine au (oh e1 e3 e4 ?_);rw[if_pos (by simp)];have l3:3<ts.size:=(a0j.mp e10).1;obtain⟨u1,u2,u3,u4⟩:=mF (i:=3) (v:=(aq:Option bx).elim bh.none λf=>yg f) e8 e9;refine vh e8 e9 l3 (h _ ⟨λb u q=>?_,nw,fu.of_keeps λb u q n=>⟨u,(u4 b (wF e8 e9 q n)).trans q,rfl⟩,⟨o,vs,T,_,_,(u4 x (Ne.symm e7)).trans e1,e2,e3,e4,e5,e6,e7,u1,u2,?_⟩⟩ λb u q n=>⟨u.slots,(u4 b (wF e8 e9 q n)).trans q⟩)
 .exact(u4 b λz=>by subst z;rw[e6]at q;cases q).trans (st b u q)
 .simp[l3]
theorem ad0{hadNext:Bool}{vs:Array bh}(hfr:A.frames=aj (env::outer))(hf:env.frame=aj L)(st:B.StaysIn s.heap)(nw:B.get? x=aq)(fu:s.heap.FunFrames B (env::outer))(e1:s.heap.get? x=aj o)(e2:o.cls=C)(e3:o.data=.fields vs)(e4:1<vs.size)(e5:vs[2]?=aj .none)
  (h:∀h',aaY B (env::outer) x C (yg L) h'->s.heap.UpToSlots h'->Q () {s with heap:=h' }) :
  cu M A (do let a ←frameOf env;let pl ←entryPlaceOf L hadNext;let b ←EntryCells.newEntry head a .none (yg L) .none pl;setField (.ref x) 1 b) Q E s:=by
 have nf:x∉(env::outer).filterMap (·.frame):=λm=>by
  obtain⟨_,u,hu,hn⟩:=fu.mem m;rw[e1]at hu;cases hu;exact hn vs e3
 refine au (wpAny_frameOf_fun hfr fu hf λk so=>au (wpAny_entryPlaceOf λpl hpl=>?_));unfold EntryCells.newEntry newFields;refine au (ni ?_ (hpl.sizeOk5 _ _ _ _ _));have k1:k.get? x=aj o:=(so.2.1 x nf).trans e1;have tne:k.objs.size≠x:=λz=>absurd (gk k1) (by rw[z];exact ud _);have kB:∀b u,B.get? b=aj u->k.get? b=aj u:=λb u q=>(so.2.1 b λm=>by rw[(fu.mem m).1]at q;cases q).trans (st b u q);generalize hT:({cls:=.type "traceback",dict:=none,data:=.fields ([head,.ref L,.none,yg L,.none]++(if pl.isEmpty then a0o 6 bh.none else pl)).toArray}:Obj)=oT;have p1:(k.push oT).get? x=aj o:=cg _ k1;obtain⟨u1,u2,u3,u4⟩:=mF (i:=1) (v:=.ref k.objs.size) p1 e3;have keep:∀b u,b≠x->k.get? b=aj u->((k.push oT).update x (Obj.mapFields (·.setIfInBounds 1 (.ref k.objs.size)))).get? b=aj u:=λb u n q=>(u4 b n).trans (cg _ q)
 have pT:(k.push oT).get? k.objs.size=aj oT:=by
  subst hT;exact gV k rfl
 refine vh p1 e3 e4 (h _ ⟨λb u q=>keep b u (λz=>by subst z;rw[nw]at q;cases q) (kB b u q),nw,fu.of_keeps λb u q n=>?_,⟨_,_,k.objs.size,oT,_,u1,u3.trans e2,u2,?_,?_,?_,tne,(u4 _ tne).trans pT,by rw[←hT],?_⟩⟩ λb u q n=>?_)
 .obtain⟨sl,z⟩:=so.2.2 b u q;exact⟨_,keep b _ (wF e1 e3 q n) z,rfl⟩
 .simp[e4]
 .rw[Array.getElem?_setIfInBounds_ne (by decide)];exact e5
 .cases q:B.get? k.objs.size with
  |none=>rfl
  |some u=>exact absurd (gk (kB _ u q)) (ud _)
 .first|(simp;done)|(rcases hpl with rfl|⟨_,_,_,_,_,_,_,rfl⟩<;>simp)
 .obtain⟨sl,z⟩:=so.2.2 b u q;exact⟨sl,keep b _ (wF e1 e3 q n) z⟩
theorem aiA(hfr:A.frames=aj (env::outer))(hf:env.frame=aj L)(f:Fly B (env::outer) x C s.heap)(h:∀h',aaY B (env::outer) x C (yg L) h'->s.heap.UpToSlots h'->Q () {s with heap:=h' }):cu M A (noteFrame (.ref x) env) Q E s:=by
 obtain⟨st,nw,fu,⟨o,vs,T,oT,ts,e1,e2,e3,e4,e5,e6,e7,e8,e9,e10⟩⟩:=f;unfold noteFrame;simp only[hf];refine au (oh e1 e3 e4 ?_);rw[if_pos (by simp)];refine au (oh e8 e9 e10 ?_);rw[if_neg (by simp[yg])];have l3:3<ts.size:=(a0j.mp e10).1;obtain⟨u1,u2,u3,u4⟩:=mF (i:=3) (v:=.none) e8 e9;refine au (vh e8 e9 l3 ?_);refine ad0 hfr hf (λb u q=>(u4 b λz=>by subst z;rw[e6]at q;cases q).trans (st b u q)) nw (fu.of_keeps λb u q n=>⟨u,(u4 b (wF e8 e9 q n)).trans q,rfl⟩) ((u4 x (Ne.symm e7)).trans e1) e2 e3 (a0j.mp e4).1 e5 λh' f' up=>h h' f' ?_;exact λb u q n=>up b u ((u4 b (wF e8 e9 q n)).trans q) n
theorem aaY.tail(f:aaY B (env::outer) x C fl h):aaY B outer x C fl h:=by
 obtain⟨st,nw,⟨_,_,fu⟩,tr⟩:=f;exact⟨st,nw,fu,tr⟩
theorem an3(hfr:A.frames=aj (env::outer))(hf:env.frame=aj L)(f:Fly B (env::outer) x C s.heap)(h:∀h',Fly B outer x C h'->s.heap.UpToSlots h'->Q () {s with heap:=h' }):cu M A (leaving env (.ref x)) Q E s:=by
 unfold leaving;refine au (aiA hfr hf f λh1 f1 up1=>a4D f1 λh2 f2 up2=>?_);exact h h2 f2.tail (up1.trans up2)
theorem agC{h0:jj}(hfr:A.frames=aj (env::outer))(hf:env.frame=aj L)(st:B.StaysIn h0)(fu:h0.FunFrames B (env::outer))(hm:a2q h0 s.heap x C us)(h:∀h',Fly B outer x C h'->s.heap.UpToSlots h'->Q () {s with heap:=h' }):cu M A (leaving env (.ref x)) Q E s:=by
 obtain⟨t,e1,_,_⟩:=hm.there;unfold leaving noteFrame;simp only[hf];refine au (au (oh (vs:=#[.ref t,.none,.none,.none,.bool ao,.none]) (i:=1) e1 rfl rfl ?_));rw[if_neg (by simp)]
 have nw:B.get? x=aq:=by
  cases q:B.get? x with
  |none=>rfl
  |some u=>have:=st x u q;rw[hm.new]at this;cases this
 refine ad0 hfr hf (λb u q=>hm.keeps b u (st b u q)) nw (fu.of_keeps λb u q _=>⟨u,hm.keeps b u q,rfl⟩) e1 rfl rfl (by simp) rfl λh1 f1 up1=>a4D f1 λh2 f2 up2=>?_;exact h h2 f2.tail (up1.trans up2)
end
def a8I(A:iw)(h:jj):Prop:=A.handled=aq∨∃x o vs,A.handled=aj (.ref x)/\h.get? x=aj o/\o.data=.fields vs/\vs[2]?=aj .none
theorem a8J:entryFor table "proto.unchain"=aj Builtin.«proto.unchain» :=entryFor_of_fast (by kernel_rfl)
section
variable{prog:jt}{w:iy}{A:iw}{E:bh->cj->Prop}{s:cj}
theorem akG{α:Type}{Q:α->cj->Prop}{a:bx}{oa:Obj}{ws:Array bh}(hq:a8I A s.heap)(ea:s.heap.get? a=aj oa)(da:oa.data=.fields ws)(la:2<ws.size)(na:∀x,A.handled=aj (.ref x)->x≠a)
  (h:∀h',(∀b,b≠a->h'.get? b=s.heap.get? b)->(∃o,h'.get? a=aj o/\o.cls=oa.cls)->E (.ref a) {s with heap:=h' }):cu (fj prog w) A (raiseNew (.ref a):Sem α) Q E s:=by
 unfold raiseNew;refine au (wpAny_handled ?_);rcases hq with hn|⟨x,o,vs,hx,ex,dx,vx⟩
 .rw[hn];exact au (dh (wpAny_throw (h s.heap (λ_ _=>rfl) ⟨oa,ea,rfl⟩)))
 .rw[hx];have ne:=na x hx;show cu (fj prog w) _ (if((bh.ref x)!=(bh.ref a))=ak then _ else _) _ _ _;rw[if_pos (by simpa using ne)];refine au (qb (wpAny_runValue (xr a8J ?_)));show cu (fj prog w) _ (field (.ref x) 2 >>= _) _ _ _;refine au (oh ex dx vx ?_);show cu (fj prog w) _ (if((bh.none:bh)==bh.none)=ak then _ else _) _ _ _;rw[if_pos (by decide)];refine au (dh (dh ?_));obtain⟨u1,u2,u3,u4⟩:=mF (i:=2) (v:=.ref x) ea da;show cu (fj prog w) _ (setField (.ref a) 2 (.ref x) >>= _) _ _ _;exact au (vh ea da la (wpAny_throw (h _ u4 ⟨_,u1,u3⟩)))
theorem nC{α:Type}{Q:α->cj->Prop}(hq:a8I A s.heap)(h:∀a h',(∀b o,s.heap.get? b=aj o->h'.get? b=aj o)->(∃o,h'.get? a=aj o/\o.cls=.type "StopIteration")->E (.ref a) {s with heap:=h' }) :
  cu (fj prog w) A (newExc (.type "StopIteration") [] >>= λe=>(raiseNew e:Sem α)) Q E s:=by
 refine au ?_;unfold newExc newTuple;refine au (ni (au (wpAny_of_eq (a:=Value.none) (by simp only[a1x];rfl) (ni ?_ (by size_fits)))) (by size_fits));generalize hh:s.heap.push {cls:=.type "tuple",data:=.seq ([]:List bh).toArray}=h1;generalize ho:({cls:=.type "StopIteration",data:=.fields (#[.ref s.heap.objs.size,.none,.none,.none,.bool ao,.none]++ownMembersOf (.type "StopIteration") [])}:Obj)=o1;have k1:∀b o,s.heap.get? b=aj o->(h1.push o1).get? b=aj o:=λb o e=>cg _ (hh ▸ cg _ e)
 have ea:(h1.push o1).get? h1.objs.size=aj o1:=by
  subst ho;exact gV h1 rfl
 have old:∀b o,s.heap.get? b=aj o->b≠h1.objs.size:=λb o e z=>by
  have l1:b<h1.objs.size:=by
   rw[←hh,wu];exact a1d (gk e)
  exact absurd l1 (by rw[z];exact ud _)
 refine akG (ws:=#[.ref s.heap.objs.size,.none,.none,.none,.bool ao,.none]++ownMembersOf (.type "StopIteration") []) ?_ ea (by rw[←ho]) (by simp[ownMembersOf]) (λx hx=>?_) λh' k c=>h h1.objs.size h' (λb o e=>(k b (old b o e)).trans (k1 b o e)) ?_
 .rcases hq with z|⟨x,o,vs,a1,a2,a3⟩
  .exact .inl z
  .exact .inr ⟨x,o,vs,a1,k1 _ _ a2,a3⟩
 .rcases hq with z|⟨x',o,vs,a1,a2,a3⟩
  .rw[z]at hx;cases hx
  .rw[a1]at hx;cases hx;exact old _ _ a2
 .obtain⟨o,e,c⟩:=c;exact⟨o,e,by rw[c,←ho]⟩
theorem pN{T id:String}{b:Builtin}(slot:Slot T (Str.ofString "__next__") id)(entry:entryFor table id=aj b)(hT:s.TypeIs (.ref it) T)(args:argsOk id ⟨[.ref it],[]⟩)
  (hb:cu (fj prog w) A.in1 (b ⟨[.ref it],[]⟩) (λ_ _=>False) (λe s'=>∃a o,e=.ref a/\s'.heap.get? a=aj o/\o.cls=.type "StopIteration"/\Q aq s') s):cu (fj prog w) A (zc (.ref it)) Q E s:=by
 unfold zc;refine au (a2e (yx hT slot (a0b slot hT entry (lg hb (λ_ _ z=>z.elim) λe s' z=>?_) args)));obtain⟨a,o,rfl,e1,e2,q⟩:=z;exact au (wpAny_isInstance (T:="StopIteration") (b:=true) ⟨o,e1,e2⟩ isSubtype_stop (dh q))
theorem a4E(hq:a8I A s.heap)(e:s.heap.get? it=aj o)(d:o.data=.fields vs)(l:vs[2]?≠aj .none):a8I A (s.heap.update it (Obj.mapFields (·.setIfInBounds i v))):=by
 rcases hq with z|⟨x,ox,ws,a1,a2,a3,a4⟩
 .exact .inl z
 .refine .inr ⟨x,ox,ws,a1,?_,a3,a4⟩
  have ne:x≠it:=λz=>by
   subst z;rw[e]at a2;cases a2;rw[d]at a3;cases a3;exact l a4
  exact((mF e d).2.2.2 x ne).trans a2
theorem akH{items:Array bh}(hq:a8I A s.heap)(hit:s.heap.IsListIter it l i)(hl:s.heap.IsList l items)(hx:items[i]?=aq)
  (h:∀h',a1i it s.heap h'->Q aq {s with heap:=h' }):cu (fj prog w) A (zc (.ref it)) Q E s:=by
 obtain⟨o,e1,c1,d1⟩:=id hit;obtain⟨ol,e2,_,nl,d2⟩:=hl;refine pN slot_listiter_next entry_listiter_next hit.typeIs (args_listiter_next _) ?_;show cu (fj prog w) _ (field (.ref it) 0 >>= _) _ _ s;refine au (oh e1 d1 (x:=.ref l) rfl ?_);show cu (fj prog w) _ (field (.ref it) 1 >>= _) _ _ s;refine au (oh e1 d1 (x:=.int i 0) rfl ?_);show cu (fj prog w) _ (a0w (.ref l) >>= _) _ _ s;refine au (wz e2 d2 ?_);simp only[hx,ux];refine au (a0x (au (vh e1 d1 (by simp) ?_)));refine nC (A:=A.in1) (a4E hq e1 d1 (by simp)) λa h' k c=>?_;obtain⟨oa,ea,ca⟩:=c;exact⟨a,oa,rfl,ea,ca,h h' λb ob n e=>k b ob (((mF e1 d1).2.2.2 b n).trans e)⟩
theorem an4{items:Array bh}(hq:a8I A s.heap)(hit:s.heap.IsTupleIter it l i)(hl:s.heap.IsTuple l items)(hx:items[i]?=aq)
  (h:∀h',a1i it s.heap h'->Q aq {s with heap:=h' }):cu (fj prog w) A (zc (.ref it)) Q E s:=by
 obtain⟨o,e1,c1,d1⟩:=id hit;obtain⟨ol,e2,_,nl,d2⟩:=hl;refine pN F.slot_tuple_iterator_next F.entry_tuple_iterator_next hit.typeIs (F.args_tuple_iterator_next_1 _) ?_;show cu (fj prog w) _ (field (.ref it) 0 >>= _) _ _ s;refine au (oh e1 d1 (x:=.ref l) rfl ?_);show cu (fj prog w) _ (field (.ref it) 1 >>= _) _ _ s;refine au (oh e1 d1 (x:=.int i 0) rfl ?_);show cu (fj prog w) _ (a0w (.ref l) >>= _) _ _ s;refine au (wz e2 d2 ?_);simp only[hx,ux];refine au (a0x (au (vh e1 d1 (by simp) ?_)));refine nC (A:=A.in1) (a4E hq e1 d1 (by simp)) λa h' k c=>?_;obtain⟨oa,ea,ca⟩:=c;exact⟨a,oa,rfl,ea,ca,h h' λb ob n e=>k b ob (((mF e1 d1).2.2.2 b n).trans e)⟩
theorem ad1{x left step:Int}(hq:a8I A s.heap)(hit:a1j s.heap it x left step)(hleft:left<=0)
  (h:∀h',a1i it s.heap h'->Q aq {s with heap:=h' }):cu (fj prog w) A (zc (.ref it)) Q E s:=by
 refine pN F.slot_range_iterator_next F.entry_range_iterator_next ⟨_,hit,rfl⟩ (F.args_range_iterator_next_1 _) ?_;show cu (fj prog w) _ (field (.ref it) 0 >>= _) _ _ s;refine au (oh hit rfl (i:=0) rfl ?_);show cu (fj prog w) _ (field (.ref it) 1 >>= _) _ _ s;refine au (oh hit rfl (i:=1) rfl ?_);show cu (fj prog w) _ (field (.ref it) 2 >>= _) _ _ s;refine au (oh hit rfl (i:=2) rfl ?_);show cu (fj prog w) _ (if left<=0 then _ else _) _ _ s;rw[if_pos hleft];refine au (a0x (au ?_));refine nC (A:=A.in1) hq λa h' k c=>?_;obtain⟨oa,ea,ca⟩:=c;exact⟨a,oa,rfl,ea,ca,h h' λb ob n e=>k b ob e⟩
theorem akI{t:Tok}(hq:a8I A s.heap)(hit:s.heap.IsStrIter it "str_ascii_iterator" x t i)(hx:x.cps[i]?=aq)
  (h:∀h',a1i it s.heap h'->Q aq {s with heap:=h' }):cu (fj prog w) A (zc (.ref it)) Q E s:=by
 obtain⟨o,e1,c1,d1⟩:=id hit;refine pN F.slot_str_ascii_iterator_next F.entry_str_ascii_iterator_next hit.typeIs (F.args_str_ascii_iterator_next_1 _) ?_;show cu (fj prog w) _ (field (.ref it) 0 >>= _) _ _ s;refine au (oh e1 d1 (x:=.str x t) rfl ?_);show cu (fj prog w) _ (field (.ref it) 1 >>= _) _ _ s;refine au (oh e1 d1 (x:=.int i 0) rfl ?_);simp only[hx,ux];refine au (a0x (au (vh e1 d1 (by simp) (au (zp ?_)))));refine nC (A:=A.in1) (a4E hq e1 d1 (by simp)) λa h' k c=>?_;obtain⟨oa,ea,ca⟩:=c;exact⟨a,oa,rfl,ea,ca,h h' λb ob n e=>k b ob (((mF e1 d1).2.2.2 b n).trans e)⟩
theorem akJ{t:Tok}(hq:a8I A s.heap)(hit:s.heap.IsStrIter it "str_iterator" x t i)(hx:x.cps[i]?=aq)
  (h:∀h',a1i it s.heap h'->Q aq {s with heap:=h' }):cu (fj prog w) A (zc (.ref it)) Q E s:=by
 obtain⟨o,e1,c1,d1⟩:=id hit;refine pN F.slot_str_iterator_next F.entry_str_iterator_next hit.typeIs (F.args_str_iterator_next_1 _) ?_;show cu (fj prog w) _ (field (.ref it) 0 >>= _) _ _ s;refine au (oh e1 d1 (x:=.str x t) rfl ?_);show cu (fj prog w) _ (field (.ref it) 1 >>= _) _ _ s;refine au (oh e1 d1 (x:=.int i 0) rfl ?_);simp only[hx,ux];refine au (a0x (au (vh e1 d1 (by simp) (au (zp ?_)))));refine nC (A:=A.in1) (a4E hq e1 d1 (by simp)) λa h' k c=>?_;obtain⟨oa,ea,ca⟩:=c;exact⟨a,oa,rfl,ea,ca,h h' λb ob n e=>k b ob (((mF e1 d1).2.2.2 b n).trans e)⟩
end
end
section
noncomputable abbrev Key:=Sum Int Str
noncomputable def a4W:Key->bh->Bool
 |.inl k,v=>bh.isInt k v
 |.inr x,v=>bh.isStrOf x v
noncomputable def aMD(w:iy):Key->Int
 |.inl k=>hashInt k
 |.inr x=>hashStr w x
theorem cT:∀{k:Key}{v:bh},a4W k v=ak->(∃i t,k=Sum.inl i/\v=bh.int i t)∨(∃x t,k=Sum.inr x/\v=bh.str x t)
 |.inl i,v,h=>by
  obtain⟨t,e⟩:=Value.isInt_shape (k:=i) (v:=v) h;exact .inl ⟨i,t,rfl,e⟩
 |.inr x,v,h=>by
  obtain⟨t,e⟩:=Value.isStrOf_shape (x:=x) (v:=v) h;exact .inr ⟨x,t,rfl,e⟩
theorem akK(i:Int)(t:Tok):a4W (.inl i) (.int i t)=ak:=by simp[a4W,bh.isInt]
theorem akL(x:Str)(t:Tok):a4W (.inr x) (.str x t)=ak:=by simp[a4W,bh.isStrOf]
theorem aAK(a b:Int):decide ((Sum.inl a:Key)=Sum.inl b)=(a==b):=by
 by_cases e:a=b
 .subst e;simp
 .have h:¬ (Sum.inl a:Key)=Sum.inl b:=λq=>e (Sum.inl.inj q);rw[decide_eq_false h];exact(beq_eq_false_iff_ne.mpr e).symm
theorem aAL(a b:Str):decide ((Sum.inr a:Key)=Sum.inr b)=decide (a=b):=by
 by_cases e:a=b
 .subst e;simp
 .have h:¬ (Sum.inr a:Key)=Sum.inr b:=λq=>e (Sum.inr.inj q);rw[decide_eq_false h,decide_eq_false e]
theorem aAM(a:Int)(b:Str):decide ((Sum.inl a:Key)=Sum.inr b)=ao:=decide_eq_false (λq=>nomatch q)
theorem aAN(a:Str)(b:Int):decide ((Sum.inr a:Key)=Sum.inl b)=ao:=decide_eq_false (λq=>nomatch q)
noncomputable def bH(prog:jt)(w:iy):PySem.KeyKind prog w Key where
 is:=a4W
 hash:=aMD w
 inj:=λv a b ha hb=>by
  rcases cT ha with⟨i,t,rfl,rfl⟩|⟨x,t,rfl,rfl⟩
  .rcases cT hb with⟨j,u,rfl,e⟩|⟨y,u,rfl,e⟩
   .injection e with e1 _;rw[e1]
   .exact nomatch e
  .rcases cT hb with⟨j,u,rfl,e⟩|⟨y,u,rfl,e⟩
   .exact nomatch e
   .injection e with e1 _;rw[e1]
 byValue:=λk v h=>by
  rcases cT h with⟨i,t,rfl,rfl⟩|⟨x,t,rfl,rfl⟩<;>rfl
 pyHash:=λhv h=>by
  rcases cT hv with⟨i,t,rfl,rfl⟩|⟨x,t,rfl,rfl⟩
  .exact wpAny_pyHash_int h
  .exact wpAny_pyHash_str h
 eqBool:=λhu hv h=>by
  rcases cT hu with⟨i,t,rfl,rfl⟩|⟨x,t,rfl,rfl⟩
  .rcases cT hv with⟨j,u,rfl,rfl⟩|⟨y,u,rfl,rfl⟩
   .rw[aAK]at h;exact wpAny_eqBool_int h
   .rw[aAM]at h;exact SeqAt.EqAt.int_str i t y u _ _ _ _ h
  .rcases cT hv with⟨j,u,rfl,rfl⟩|⟨y,u,rfl,rfl⟩
   .rw[aAN]at h;exact SeqAt.EqAt.str_int x t j u _ _ _ _ h
   .rw[aAL]at h;exact wpAny_eqBool_str h
 «strs» :=λk x t v h=>by
  rcases cT h with⟨i,u,rfl,e⟩|⟨y,u,rfl,e⟩
  .exact nomatch e
  .injection e with e1 _;subst e1;cases v<;>rfl
theorem ad2(prog:jt)(w:iy)(i:Int)(t:Tok):(bH prog w).is (.inl i) (.int i t)=ak:=akK i t
theorem ad3(prog:jt)(w:iy)(x:Str)(t:Tok):(bH prog w).is (.inr x) (.str x t)=ak:=akL x t
end
section
inductive V where
 |non|bl (b:Bool)|int (i:Int)|str (x:Str)|byt (b:Array UInt8)|flt (b:UInt64)|ref (a:bx)|ty (n:String)
 deriving DecidableEq
noncomputable def RelV:V->bh->Prop
 |.non,u=>u=bh.none
 |.bl b,u=>u=bh.bool b
 |.int i,u=>∃t,u=bh.int i t
 |.str x,u=>∃t,u=bh.str x t
 |.byt b,u=>∃t,u=bh.bytes b t
 |.flt b,u=>∃t,u=bh.float b t
 |.ref a,u=>u=bh.ref a
 |.ty n,u=>u=bh.type n
noncomputable abbrev Vals:List V->List bh->Prop:=Paired RelV
theorem Vals.length{xs:List V}{us:List bh}(r:Vals xs us):xs.length=us.length:=Paired.length r
theorem Vals.get:∀{xs:List V}{us:List bh}{i:Nat}{x:V},Vals xs us->xs[i]?=aj x->∃u,us[i]?=aj u/\RelV x u
 |_,_,_,_,.nil,e=>by simp at e
 |_,_,0,_,.cons r _,e=>by simp at e;subst e;exact⟨_,rfl,r⟩
 |_,_,i+1,x,.cons _ t,e=>by
  obtain⟨u,h1,h2⟩:=Vals.get (i:=i) (x:=x) t (by simpa using e);exact⟨u,by simpa using h1,h2⟩
theorem Vals.set{x:V}(r:RelV x u):∀{xs:List V}{us:List bh}(i:Nat),Vals xs us->Vals (xs.set i x) (us.set i u)
 |_,_,_,.nil=>.nil
 |_,_,0,.cons _ t=>.cons r t
 |_,_,i+1,.cons q t=>.cons q (Vals.set r i t)
theorem Vals.append:∀{xs ys:List V}{us ws:List bh},Vals xs us->Vals ys ws->Vals (xs++ys) (us++ws)
 |_,_,_,_,.nil,s=>s
 |_,_,_,_,.cons r t,s=>.cons r (Vals.append t s)
theorem Vals.take:∀{xs:List V}{us:List bh}(n:Nat),Vals xs us->Vals (xs.take n) (us.take n)
 |_,_,0,_=>.nil
 |_,_,_+1,.nil=>.nil
 |_,_,n+1,.cons r t=>.cons r (Vals.take n t)
theorem Vals.drop:∀{xs:List V}{us:List bh}(n:Nat),Vals xs us->Vals (xs.drop n) (us.drop n)
 |_,_,0,r=>r
 |_,_,_+1,.nil=>.nil
 |_,_,n+1,.cons _ t=>Vals.drop n t
noncomputable def a3J:Option V->Option bh->Prop
 |some v,aj u=>RelV v u
 |none,aq=>True
 |_,_=>False
noncomputable def KV{κ:Type}:List (κ×V)->List (κ×bh)->Prop:=Paired λ(p:κ×V)(q:κ×bh)=>p.1=q.1/\RelV p.2 q.2
noncomputable def kV:Key->V
 |.inl i=>.int i
 |.inr x=>.str x
inductive HO where
 |lst (xs:List V)
 |tup (xs:List V)
 |dK (kvs:List (Key×V))|dT (kvs:List (List Key×V))
 |set (S:Int->Bool) (n:Nat)
 |ins (C dx:bx) (fs:List (Str×V))
 |own (x:bx)
 |xd (fs:List (Str×V))
 |met (f x:bx)
 |rng (lo hi:Int)
 |gK (o:Obj) (u:HO)
 |xH (ps:Array bh)
 |ext (φ:jj->Prop)
noncomputable abbrev Hp:=Addr->Option HO
noncomputable def upd(H:Hp)(a:bx)(o:HO):Hp:=λb=>if b=a then aj o else H b
theorem aF:upd H a o a=aj o:=by unfold upd;rw[if_pos rfl]
theorem aJ(h:b≠a):upd H a o b=H b:=by unfold upd;rw[if_neg h]
theorem a9F{H:Hp}{a:bx}{o u:HO}(h:H a=aj o)(h':H b=aj u)(d:o≠u):a≠b:=by
 intro e;subst e;rw[h]at h';exact d (jk.inj h')
theorem bW{H:Hp}{a:bx}{o:HO}(h:H a=aj o)(h':H b=aq):a≠b:=by
 intro e;subst e;rw[h]at h';cases h'
section
variable(P:jt)(w:iy)
noncomputable def dM(H:Hp)(h:jj)(a:bx):HO->Prop
 |.lst xs=>xs.length<=dg/\∃(its:List bh)(n:Nat),Vals xs its/\h.get? a=aj {cls:=.type "list",data:=.seq its.toArray n}
 |.tup xs=>xs.length<=dg/\∃its:List bh,Vals xs its/\IsTup h a its.toArray
 |.dK kvs=>kvs.length<=dg/\(a==vd)=ao/\∃vs,KV kvs vs/\h.DictOf (bH P w) a vs
 |.dT kvs=>kvs.length<=dg/\(a==vd)=ao/\∃xs:List (List Key×bx×bh),
   Paired (λ(p:List Key×V)(q:List Key×bx×bh)=>p.1=q.1/\H q.2.1=aj (.tup (p.1.map kV))/\RelV p.2 q.2.2) kvs xs /\
   ∃o es ep,h.get? a=aj o/\o.ExactDict/\o.data=.dict es ep/\es.toList=xs.map (entryOfKey (zu (bH P w)))/\(xs.map (·.1)).Nodup
 |.set S n=>h.SetOf (intKind P w) a S n
 |.ins C dx fs=>H dx=aj (.own a)/\fs.length<=1000/\dx≠a/\h.get? a=aj (a0y C dx) /\
   ∃mA,h.Ns1 dx mA/\(∀f,a3J (fs.lookup f) (mA f))/\PySem.Within mA (fs.map (·.1))
 |.own _=>∃o,h.get? a=aj o
 |.xd fs=>∃mA,h.Ns1 a mA/\∀f,a3J (fs.lookup f) (mA f)
 |.rng lo hi=>∃t u v,h.get? a=aj {cls:=.type "range",data:=.fields #[.int lo t,.int hi u,.int 1 v]}
 |.gK o u=>h.get? a=aj o/\dM H h a u
 |.xH ps=>h.get? a=aj {cls:=.none,data:=.fields ps}
 |.met f x=>h.get? a=aj (PySem.W.methodObj (.ref f) (.ref x))
 |.ext φ=>φ h/\(∃o,h.get? a=aj o)/\∀h1 h2:jj,φ h1->(∀o,h1.get? a=aj o->h2.get? a=aj o)->φ h2
def u9(H:Hp)(h:jj):Prop:=∀a o,H a=aj o->dM P w H h a o
end
section
variable{w:iy}{h h':jj}{a:bx}
theorem dM.lt(x:dM P w H h a o):a<h.objs.size:=by
 cases o with
 |lst xs=>obtain⟨_,_,_,_,e⟩:=x;exact gk e
 |tup xs=>obtain⟨_,_,_,p⟩:=x;exact p.lt
 |dK kvs=>obtain⟨_,_,_,_,o,_,_,e,_⟩:=x;exact gk e
 |dT kvs=>obtain⟨_,_,_,_,o,_,_,e,_⟩:=x;exact gk e
 |set S n=>obtain⟨o,_,_,_,e,_⟩:=x;exact gk e
 |ins C dx fs=>obtain⟨_,_,_,e,_⟩:=x;exact gk e
 |own y=>obtain⟨_,e⟩:=x;exact gk e
 |xd fs=>obtain⟨_,⟨_,_,_,e,_⟩,_⟩:=x;exact gk e
 |rng lo hi=>obtain⟨_,_,_,e⟩:=x;exact gk e
 |gK ob u=>obtain⟨e,_⟩:=x;exact gk e
 |xH ps=>exact gk (show h.get? a=aj _ from x)
 |met f y=>exact gk (show h.get? a=aj _ from x)
 |ext φ=>obtain⟨_,⟨_,e⟩,_⟩:=x;exact gk e
theorem Paired.agD{α β:Type}{F G:α->β->Prop}:∀{l₁:List α}{l₂:List β},Paired F l₁ l₂->(∀a b,F a b->G a b)->Paired G l₁ l₂
 |_,_,.nil,_=>.nil
 |_,_,.cons r t,f=>.cons (f _ _ r) (Paired.agD t f)
theorem dM.stay(x:dM P w H h a o)(k:∀b u,(b=a∨H b=aj (.own a))->h.get? b=aj u->h'.get? b=aj u)
  (ho:∀b,H b=aj (.own a)->H' b=aj (.own a))(ht:∀b xs,H b=aj (.tup xs)->H' b=aj (.tup xs)):dM P w H' h' a o:=by
 induction o with
 |lst xs=>obtain⟨z,its,n,r,e⟩:=x;exact⟨z,its,n,r,k _ _ (.inl rfl) e⟩
 |tup xs=>obtain⟨z,its,r,ob,e,c⟩:=x;exact⟨z,its,r,ob,k _ _ (.inl rfl) e,c⟩
 |dK kvs=>obtain⟨z,y,vs,r,ob,es,ep,e,c⟩:=x;exact⟨z,y,vs,r,ob,es,ep,k _ _ (.inl rfl) e,c⟩
 |dT kvs =>
  obtain⟨z,y,xs,r,ob,es,ep,e,c⟩:=x;exact⟨z,y,xs,Paired.agD r λp q z=>⟨z.1,ht _ _ z.2.1,z.2.2⟩,ob,es,ep,k _ _ (.inl rfl) e,c⟩
 |set S n=>obtain⟨ob,es,ep,t,e,c⟩:=x;exact⟨ob,es,ep,t,k _ _ (.inl rfl) e,c⟩
 |ins C dx fs =>
  obtain⟨d,z,ne,e,mA,⟨od,es,ep,e2,c⟩,r⟩:=x;exact⟨ho _ d,z,ne,k _ _ (.inl rfl) e,mA,⟨od,es,ep,k _ _ (.inr d) e2,c⟩,r⟩
 |own y=>obtain⟨ob,e⟩:=x;exact⟨ob,k _ _ (.inl rfl) e⟩
 |xd fs=>obtain⟨mA,⟨od,es,ep,e,c⟩,r⟩:=x;exact⟨mA,⟨od,es,ep,k _ _ (.inl rfl) e,c⟩,r⟩
 |rng lo hi=>obtain⟨t,u,v,e⟩:=x;exact⟨t,u,v,k _ _ (.inl rfl) e⟩
 |gK ob u ih=>obtain⟨e,q⟩:=x;exact⟨k _ _ (.inl rfl) e,ih q⟩
 |xH ps =>
  have e:h.get? a=aj {cls:=.none,data:=.fields ps}:=x;show h'.get? a=aj {cls:=.none,data:=.fields ps};exact k a _ (.inl rfl) e
 |met f y =>
  have e:h.get? a=aj (PySem.W.methodObj (.ref f) (.ref y)):=x;show h'.get? a=aj (PySem.W.methodObj (.ref f) (.ref y));exact k a _ (.inl rfl) e
 |ext φ=>obtain⟨p,⟨o,e⟩,st⟩:=x;exact⟨st _ _ p λo q=>k _ _ (.inl rfl) q,⟨o,k _ _ (.inl rfl) e⟩,st⟩
theorem u9.lt(x:u9 P w H h)(e:H a=aj o):a<h.objs.size:=(x a o e).lt
theorem u9.fresh(x:u9 P w H h)(e:h.objs.size<=a):H a=aq:=by
 cases q:H a with
 |none=>rfl
 |some u=>exact absurd (iz (x.lt q) e) (ud _)
theorem u9.kept(x:u9 P w H h)(k:∀b u,h.get? b=aj u->h'.get? b=aj u):u9 P w H h':=λa o e =>
 (x a o e).stay (λb u _ q=>k b u q) (λ_ q=>q) λ_ _ q=>q
theorem u9.laid(x:u9 P w H h)(k:∀b u,h.get? b=aj u->h'.get? b=aj u)(hp:h.objs.size<=a)(new:dM P w (upd H a o) h' a o):u9 P w (upd H a o) h':=λb u e=>by
 have hn:=x.fresh hp;by_cases hb:b=a
 .subst hb;rw[aF]at e;cases e;exact new
 .rw[aJ hb]at e;exact(x b u e).stay (λc v _ q=>k c v q) (λc q=>by rw[aJ (bW q hn)];exact q) λc xs q=>by rw[aJ (bW q hn)];exact q
end
def Rd(H:Hp)(a:bx)(u:HO):Prop:=H a=aj u∨∃o,H a=aj (.gK o u)
theorem Rd.of(h:H a=aj u):Rd H a u:=.inl h
theorem Rd.ok{w:iy}(r:Rd H a u)(x:u9 P w H h):dM P w H h a u:=by
 rcases r with r|⟨o,r⟩
 .exact x a u r
 .obtain⟨_,q⟩:=x a _ r;exact q
noncomputable def Mut:Option HO->Prop
 |some (.lst _)=>True
 |some (.dK _)=>True
 |some (.dT _)=>True
 |some (.set _ _)=>True
 |some (.ins _ _ _)=>True
 |some (.ext _)=>True
 |_=>False
section
variable{w:iy}{h h':jj}{x:bx}
theorem u9.write(ok:u9 P w H h)(mu:Mut (H x))(he:e=x∨H e=aj (.own x))(k:∀b u,b≠e->h.get? b=aj u->h'.get? b=aj u)(heo:∃u,h'.get? e=aj u)
  (new:dM P w (upd H x o') h' x o'):u9 P w (upd H x o') h':=λb u q=>by
 have aGL:∀c y,H c=aj (.own y)->c≠x:=λc y r z=>by subst z;rw[r]at mu;exact mu
 have aME:∀c xs,H c=aj (.tup xs)->c≠x:=λc xs r z=>by subst z;rw[r]at mu;exact mu
 by_cases hb:b=x
 .subst hb;rw[aF]at q;cases q;exact new
 .rw[aJ hb]at q;by_cases hbe:b=e
  .have q':H b=aj (.own x):=by
    rcases he with z|z
    .exact absurd (hbe.trans z) hb
    .rw[hbe];exact z
   rw[q]at q';cases q';obtain⟨v,hv⟩:=heo;exact⟨v,by rw[hbe];exact hv⟩
  .refine(ok b u q).stay (λc v hc r=>k c v ?_ r) (λc r=>by rw[aJ (aGL c b r)];exact r) λc xs r=>by rw[aJ (aME c xs r)];exact r
   rcases hc with rfl|hc
   .exact hbe
   .rintro rfl;rcases he with z|z
    .exact aGL c b hc z
    .rw[hc]at z;cases z;exact hb rfl
end
structure Un(fs ex:List bx)(H H':Hp)(h h':jj):Prop where
 keep:∀b o,h.get? b=aj o->H b=aq->b∉fs->b∉ex->h'.get? b=aj o
 slot:∀b o,h.get? b=aj o->H b=aq->b∈fs->b∉ex->∃sl,h'.get? b=aj {o with slots:=sl}
 free:∀b o,h.get? b=aj o->H b=aq->b∉ex->H' b=aq
 there:∀b o,h.get? b=aj o->b∉ex->∃o',h'.get? b=aj o'
 tups:∀b xs,H b=aj (.tup xs)->H' b=aj (.tup xs)
 fK:∀b o u,H b=aj (.gK o u)->H' b=aj (.gK o u)
 nD:∀b ps,H b=aj (.xH ps)->∃more,H' b=aj (.xH (ps++more))
section
variable{fs ex:List bx}{h h1 h':jj}{x:bx}
theorem Un.any(u:Un fs ex H H1 h h1){ob:Obj}(q:h.get? b=aj ob)(n:H b=aq)(hx:b∉ex):∃sl,h1.get? b=aj {ob with slots:=sl}:=by
 by_cases hb:b∈fs
 .exact u.slot b ob q n hb hx
 .exact⟨ob.slots,u.keep b ob q n hb hx⟩
theorem Un.trans(a:Un fs ex H H1 h h1)(b:Un fs ex H1 H2 h1 h2):Un fs ex H H2 h h2 where
 keep:=λc ob q n hc hx=>b.keep c ob (a.keep c ob q n hc hx) (a.free c ob q n hx) hc hx
 slot:=λc ob q n hc hx=>by
  obtain⟨sl,e1⟩:=a.slot c ob q n hc hx;obtain⟨sl',e2⟩:=b.slot c _ e1 (a.free c ob q n hx) hc hx;exact⟨sl',e2⟩
 free:=λc ob q n hx=>by
  obtain⟨o',e1⟩:=a.there c ob q hx;exact b.free c o' e1 (a.free c ob q n hx) hx
 there:=λc ob q hx=>by
  obtain⟨o',e1⟩:=a.there c ob q hx;exact b.there c o' e1 hx
 tups:=λc xs q=>b.tups c xs (a.tups c xs q)
 fK:=λc ob xs q=>b.fK c ob xs (a.fK c ob xs q)
 nD:=λc ps q=>by
  obtain⟨m1,e1⟩:=a.nD c ps q;obtain⟨m2,e2⟩:=b.nD c _ e1;exact⟨m1++m2,by rw[e2,Array.append_assoc]⟩
theorem Un.kept(k:∀b u,h.get? b=aj u->h'.get? b=aj u):Un fs ex H H h h' :=
 ⟨λb ob q _ _ _=>k b ob q,λb ob q _ _ _=>⟨ob.slots,k b ob q⟩,λ_ _ _ n _=>n,λb ob q _=>⟨ob,k b ob q⟩,λ_ _ q=>q,λ_ _ _ q=>q,λ_ ps q=>⟨#[],by rw[q];simp⟩⟩
theorem Un.refl:Un fs ex H H h h:=Un.kept λ_ _ q=>q
theorem Un.laid(k:∀b u,h.get? b=aj u->h'.get? b=aj u)(hp:h.objs.size<=a)(hn:H a=aq):Un fs ex H (upd H a o) h h' where
 keep:=λb u q _ _ _=>k b u q
 slot:=λb u q _ _ _=>⟨u.slots,k b u q⟩
 free:=λb u q n _=>by rw[aJ (jd (iz (gk q) hp))];exact n
 there:=λb u q _=>⟨u,k b u q⟩
 tups:=λb xs q=>by rw[aJ (bW q hn)];exact q
 fK:=λb u xs q=>by rw[aJ (bW q hn)];exact q
 nD:=λb ps q=>⟨#[],by rw[aJ (bW q hn),q];simp⟩
theorem Un.write(mu:Mut (H x))(he:e=x∨H e=aj (.own x))(k:∀b u,b≠e->h.get? b=aj u->h'.get? b=aj u)(heo:∃u,h'.get? e=aj u):Un fs ex H (upd H x o) h h':=by
 have hx:∀b,H b=aq->b≠x:=λb n z=>by subst z;rw[n]at mu;exact mu
 have hb:∀b,H b=aq->b≠e:=λb n z=>by
  subst z;rcases he with r|r
  .exact hx b n r
  .rw[n]at r;cases r
 have hm:∀b u,H b=aj u->¬ Mut (aj u)->b≠x:=λb u q nm z=>by subst z;rw[q]at mu;exact nm mu
 refine⟨λb u q n _ _=>k b u (hb b n) q,λb u q n _ _=>⟨u.slots,k b u (hb b n) q⟩,λb u q n _=>by rw[aJ (hx b n)];exact n,λb u q _=>?_,
  λb xs q=>by rw[aJ (hm b _ q λz=>z)];exact q,λb u xs q=>by rw[aJ (hm b _ q λz=>z)];exact q,λb ps q=>⟨#[],by rw[aJ (hm b _ q λz=>z),q];simp⟩⟩
 by_cases hbe:b=e
 .subst hbe;exact heo
 .exact⟨u,k b u hbe q⟩
theorem Un.mono(u:Un fs ex H H1 h h1)(hs:∀b∈fs,b∈fs')(hx:∀b∈ex,b∈ex'):Un fs' ex' H H1 h h1 :=
 ⟨λb ob q n hb he=>u.keep b ob q n (λz=>hb (hs b z)) λz=>he (hx b z),λ_ _ q n _ he=>u.any q n λz=>he (hx _ z),λb ob q n he=>u.free b ob q n λz=>he (hx b z),λb ob q he=>u.there b ob q λz=>he (hx b z),u.tups,u.fK,u.nD⟩
end
noncomputable def trk(h:jj)(H:Hp):List bx:=(jy h.objs.size).filter λa=>(H a).isSome
noncomputable def a4X(h:jj)(H:Hp):jj:=a2j h (trk h H)
theorem akM(h:jj)(H:Hp):(a4X h H).objs.size=h.objs.size:=PySem.W.hideAll_size _ _
variable{h:jj}
theorem an5(e:h.get? b=aj o)(n:H b=aq):(a4X h H).get? b=aj o :=
 PySem.W.hideAll_get _ e λhm=>by
  have q:(H b).isSome=ak:=(a2k.mp hm).2;rw[n]at q;simp at q
theorem atY(e:(a4X h H).get? b=aj o):h.get? b=aj o/\H b=aq:=by
 have e':h.get? b=aj o:=PySem.W.of_hideAll (trk h H) e;refine⟨e',?_⟩;cases q:H b with
 |none=>rfl
 |some x =>
  have hm:b∈trk h H:=a2k.mpr ⟨xg.mpr (gk e'),by simp[q]⟩;have z:(a4X h H).get? b=aq:=PySem.W.hideAll_none (trk h H) hm;rw[z]at e;cases e
noncomputable def atZ(g h:jj)(L:bx):List (bx×Obj):=(jy h.objs.size).filterMap λa=>if a=L∨(g.get? a).isSome=ak then aq else(h.get? a).map λo=>(a,o)
noncomputable def rest(g h:jj)(L d:bx):List (bx×Obj):=(atZ g h L).filter λp=>decide (p.1≠d)
end
variable{t':Nat}{N:List Str}
section
structure Mod(K:ig)(mg:Str->Option bh)(base:jj):Prop where
 kin:K.In base
 glob:base.Ns ji mg
 blt:∃mb,base.Ns a1y mb/\∀x:Str,x≠"__name__"->mb x=jr x
 nolimit:base.NoLimit
structure Cx where
 prog:jt
 w:iy
 K:ig
 mg:Str->Option bh
 base:jj
 A:iw
 N:List Str
 s₀:cj
 H₀:Hp
 env:Env
 outer:List Env
 stack:List Env
 ex:List bx
 fn:Str->Bool
 calm:Bool
 pn:List (bx×Obj)
 tp:List (bx×List V)
 xe:bh->cj->Prop
 need:Bool:=false
noncomputable def frs(l:List Env):List bx:=l.filterMap (·.frame)
noncomputable abbrev Cx.fs(X:Cx):List bx:=frs X.outer
def Vis(sc:uh)(x:Str):Prop:=sc.names.lookup x=aj .local∨sc.names.lookup x=aj .cell∨sc.names.lookup x=aj .free
def Loc(sc:uh)(x:Str):Prop:=sc.names.lookup x=aj .local∨sc.names.lookup x=aj .cell
noncomputable def Look(env:Env)(h:jj)(m:Str->Option bh)(x:Str)(u:bh):Prop :=
 (env.kindOf x=aj .local/\m x=aj u)∨((env.kindOf x=aj .cell∨env.kindOf x=aj .free)/\∃c,env.cells.lookup x=aj c/\h.IsCell c (aj u))
structure Cx.Ok(X:Cx):Prop where
 mod:Mod X.K X.mg X.base
 kind:X.env.scope.kind=.function
 glob:X.env.globals=ji
 blt:X.env.builtins=a1y
 above:X.s₀.heap.objs.size<=X.env.locals
 inj:∀x y c,X.env.cells.lookup x=aj c->X.env.cells.lookup y=aj c->x=y
 has:∀x,(X.env.kindOf x=aj .cell∨X.env.kindOf x=aj .free)->∃c,X.env.cells.lookup x=aj c
 cab:∀x c,X.fn x=ak->X.env.cells.lookup x=aj c->X.s₀.heap.objs.size<=c
 hd:X.calm=ak->X.A.handled=aq
 frames:X.A.frames=aj X.stack
 stk:X.stack=X.outer∨(X.stack=X.env::X.outer/\X.env.frame=aj X.env.locals)
 exf:∀b∈X.ex,b≠X.env.locals/\∀x c,X.env.cells.lookup x=aj c->c≠b
 bs:∀b o,X.base.get? b=aj o->X.s₀.heap.get? b=aj o/\X.H₀ b=aq
 bsz:X.base.objs.size<=X.s₀.heap.objs.size
 a3K:∀b o,X.base.get? b=aj o->b∉X.ex
 a4Y:∀b∈X.ex,b∉X.fs
 nF:X.s₀.heap.FunFrames X.base X.outer
 frf:∀b∈X.fs,X.H₀ b=aq
def Hnd(A:iw)(H:Hp):Prop:=A.handled=aq∨∃x o u vs,A.handled=aj (.ref x)/\H x=aj (.gK o u)/\o.data=.fields vs/\vs[2]?=aj .none
theorem Hnd.mono{A:iw}(h:Hnd A H)(f:∀b o u,H b=aj (.gK o u)->H' b=aj (.gK o u)):Hnd A H':=by
 rcases h with z|⟨x,o,u,vs,a,b,c⟩
 .exact .inl z
 .exact .inr ⟨x,o,u,vs,a,f _ _ _ b,c⟩
theorem Hnd.heap{w:iy}{A:iw}(q:Hnd A H)(hok:u9 P w H h):a8I A h:=by
 rcases q with z|⟨x,o,u,vs,a,b,c⟩
 .exact .inl z
 .exact .inr ⟨x,o,vs,a,(hok x _ b).1,c⟩
structure Inv(X:Cx)(pins:List (bx×Obj))(σ:List (Option V))(H:Hp)(s:cj):Prop where
 ok:X.Ok
 os:s.os=X.s₀.os
 bare:AllBare s.gens
 base:Un X.fs X.ex X.H₀ H X.s₀.heap s.heap
 loc:∃m,s.heap.Ns X.env.locals m/\∀(i:Nat)(x:Str)(v:V),X.N[i]?=aj x->σ[i]?=aj (aj v)->Vis X.env.scope x->∃u,RelV v u/\Look X.env s.heap m x u
 cell:∀x c,X.env.cells.lookup x=aj c->∃v,s.heap.IsCell c v
 free:H X.env.locals=aq
 gM:∀x c,X.env.cells.lookup x=aj c->H c=aq
 pin:∀p∈X.pn++pins,s.heap.get? p.1=aj p.2/\H p.1=aq/\p.1≠X.env.locals/\p.1∉X.fs/\∀v,p.2.data≠.cell v
 hok:u9 X.prog X.w H s.heap
 len:σ.length=X.N.length
 hnd:Hnd X.A H
 tup:∀p∈X.tp,H p.1=aj (.tup p.2)
variable{i:Nat}
section
variable{X:Cx}{pins:List (bx×Obj)}{σ:List (Option V)}{H H':Hp}{s:cj}{h':jj}
theorem Cx.Ok.aMF(ok:X.Ok)(e:X.base.get? b=aj o):b∉X.fs:=λhb=>by
 have:=(ok.nF.mem hb).1;rw[e]at this;cases this
theorem Inv.bs(I:Inv X pins σ H s):∀b o,X.base.get? b=aj o->s.heap.get? b=aj o/\H b=aq:=λb o e =>
 ⟨I.base.keep b o (I.ok.bs b o e).1 (I.ok.bs b o e).2 (I.ok.aMF e) (I.ok.a3K b o e),I.base.free b o (I.ok.bs b o e).1 (I.ok.bs b o e).2 (I.ok.a3K b o e)⟩
theorem Inv.bk(I:Inv X pins σ H s):∀b o,X.base.get? b=aj o->s.heap.get? b=aj o:=λb o e=>(I.bs b o e).1
theorem Inv.mod(I:Inv X pins σ H s):Mod X.K X.mg X.base:=I.ok.mod
theorem Inv.kIn(I:Inv X pins σ H s):X.K.In s.heap:=I.ok.mod.kin.keeps I.bk
theorem Inv.nolimit(I:Inv X pins σ H s):s.heap.NoLimit:=I.ok.mod.nolimit.keeps I.bk
theorem Inv.fr(I:Inv X pins σ H s):∃m,Fr X.base X.env.locals s.heap m :=
 let⟨m,hn,_⟩:=I.loc
 ⟨m,hn,I.bk,qz I.ok.bsz I.ok.above⟩
theorem Inv.lt(I:Inv X pins σ H s):X.env.locals<s.heap.objs.size:=let⟨_,hn,_⟩:=I.loc;hn.lt
theorem Inv.sz(I:Inv X pins σ H s):X.s₀.heap.objs.size<=s.heap.objs.size:=qz I.ok.above (ur I.lt)
theorem Inv.aMG(I:Inv X pins σ H s)(h:s.heap.objs.size<=a):a∉X.fs:=λhb=>by
 obtain⟨_,o,ho,_⟩:=I.ok.nF.mem hb;exact absurd (iz (gk ho) (qz I.sz h)) (ud _)
theorem Inv.cne(I:Inv X pins σ H s):∀x c,X.env.cells.lookup x=aj c->c≠X.env.locals:=λx c e z=>by
 obtain⟨v,o,ho,hd⟩:=I.cell x c e;obtain⟨m,⟨o',es,ep,ho',hd',_⟩,_⟩:=I.loc;rw[z,ho']at ho;cases ho;rw[hd']at hd;cases hd
theorem Inv.nF(I:Inv X pins σ H s):s.heap.FunFrames X.base X.outer:=by
 have all:∀(l:List Env),(∀b∈frs l,b∈X.fs)->X.s₀.heap.FunFrames X.base l->s.heap.FunFrames X.base l:=by
  intro l
  induction l with
  |nil=>intro _ _;trivial
  |cons env r ih =>
   intro hs hl;obtain⟨hk,⟨L,o,hf,hn,ho,hd⟩,hr⟩:=hl;have hL:L∈X.fs:=hs L (by unfold frs;rw[a1n,hf];exact qu);obtain⟨sl,e⟩:=I.base.slot L o ho (I.ok.frf L hL) hL λz=>I.ok.a4Y L z hL;exact⟨hk,⟨L,_,hf,hn,e,hd⟩,ih (λb hb=>hs b (by unfold frs;rw[a1n,hf];exact jw _ hb)) hr⟩
 exact all X.outer (λ_ hb=>hb) I.ok.nF
theorem Inv.stack(I:Inv X pins σ H s):s.heap.FunFrames X.base X.stack:=by
 rcases I.ok.stk with e|⟨e,hf⟩
 .rw[e];exact I.nF
 .rw[e];obtain⟨m,hn,_⟩:=I.loc;refine .cons (by rw[I.ok.kind];decide) hf hn ?_ I.nF;exact Heap.get?_none_of_le (qz I.ok.bsz I.ok.above)
theorem Inv.agE(I:Inv X pins σ H s):∀b∈frs X.stack,b∈X.env.locals::X.fs:=λb hb=>by
 rcases I.ok.stk with e|⟨e,hf⟩
 .rw[e]at hb;exact jw _ hb
 .rw[e]at hb;unfold frs at hb;rw[a1n,hf]at hb;exact hb
theorem Inv.aaZ(I:Inv X pins σ H s):∀b∈frs X.stack,H b=aq:=λb hb=>by
 rcases jm.mp (I.agE b hb)with e|hb
 .rw[e];exact I.free
 .obtain⟨_,o,ho,_⟩:=I.ok.nF.mem hb;exact I.base.free b o ho (I.ok.frf b hb) λz=>I.ok.a4Y b z hb
theorem Inv.step{g':Array GenState}{d':Drawn}{ch:List bx}(I:Inv X pins σ H s)
  (hch:∀b∈ch,(b∈X.ex∨X.s₀.heap.objs.size<=b)/\b≠X.env.locals/\(∀x c,X.env.cells.lookup x=aj c->c≠b)/\∀p∈X.pn++pins,p.1≠b)
  (keep:∀b o,b≠X.env.locals->b∉X.fs->b∉ch->s.heap.get? b=aj o->H b=aq->h'.get? b=aj o)
  (slot:∀b o,b≠X.env.locals->b∈X.fs->b∉ch->s.heap.get? b=aj o->H b=aq->∃sl,h'.get? b=aj {o with slots:=sl})(free:∀b o,b∉ch->s.heap.get? b=aj o->H b=aq->H' b=aq)
  (there:∀b o,b∉ch->s.heap.get? b=aj o->∃o',h'.get? b=aj o')
  (tups:∀b xs,H b=aj (.tup xs)->H' b=aj (.tup xs))(fK:∀b o u,H b=aj (.gK o u)->H' b=aj (.gK o u))(nD:∀b ps,H b=aj (.xH ps)->∃more,H' b=aj (.xH (ps++more)))
  (ns:∀m,s.heap.Ns X.env.locals m->h'.Ns X.env.locals m)(hok:u9 X.prog X.w H' h')(hg:AllBare g') :
  Inv X pins σ H' {s with heap:=h',gens:=g',drawn:=d',toks:=t' }:=by
 have neL:∀b o,X.s₀.heap.get? b=aj o->b≠X.env.locals:=λb o e=>jd (iz (gk e) I.ok.above)
 have neC:∀b o,X.s₀.heap.get? b=aj o->b∉X.ex->b∉ch:=λb o e hx hb=>by
  rcases(hch b hb).1 with z|z
  .exact hx z
  .exact absurd (iz (gk e) z) (ud _)
 have cellK:∀x c,X.env.cells.lookup x=aj c->∀v,s.heap.IsCell c v->h'.IsCell c v:=λx c e v ⟨o,ho,hd⟩=>by
  have nch:c∉ch:=λz=>(hch c z).2.2.1 x c e rfl;by_cases hc:c∈X.fs
  .obtain⟨sl,q⟩:=slot c o (I.cne x c e) hc nch ho (I.gM x c e);exact⟨_,q,hd⟩
  .exact⟨o,keep c o (I.cne x c e) hc nch ho (I.gM x c e),hd⟩
 refine⟨I.ok,I.os,hg,⟨λb o e n hb hx=>?_,λb o e n hb hx=>?_,λb o e n hx=>?_,λb o e hx=>?_,λb xs e=>tups b xs (I.base.tups b xs e),λb o xs e=>fK b o xs (I.base.fK b o xs e),λb ps e=>?_⟩,?_,λx c e=>?_,?_,λx c e=>?_,λp hp=>?_,hok,I.len,I.hnd.mono fK,λp hp=>tups _ _ (I.tup p hp)⟩
 .exact keep b o (neL b o e) hb (neC b o e hx) (I.base.keep b o e n hb hx) (I.base.free b o e n hx)
 .obtain⟨sl,e1⟩:=I.base.slot b o e n hb hx;obtain⟨sl',e2⟩:=slot b _ (neL b o e) hb (neC b o e hx) e1 (I.base.free b o e n hx);exact⟨sl',e2⟩
 .obtain⟨o',e1⟩:=I.base.there b o e hx;exact free b o' (neC b o e hx) e1 (I.base.free b o e n hx)
 .obtain⟨o',e1⟩:=I.base.there b o e hx;exact there b o' (neC b o e hx) e1
 .obtain⟨m1,e1⟩:=I.base.nD b ps e;obtain⟨m2,e2⟩:=nD b _ e1;exact⟨m1++m2,by rw[e2,Array.append_assoc]⟩
 .obtain⟨m,hn,hl⟩:=I.loc;refine⟨m,ns m hn,λi x v e1 e2 e3=>?_⟩;obtain⟨u,r,l⟩:=hl i x v e1 e2 e3;refine⟨u,r,?_⟩;rcases l with l|⟨k,c,e,z⟩
  .exact .inl l
  .exact .inr ⟨k,c,e,cellK x c e _ z⟩
 .obtain⟨v,z⟩:=I.cell x c e;exact⟨v,cellK x c e v z⟩
 .obtain⟨m,⟨o,_,_,ho,_⟩,_⟩:=I.loc;exact free _ o (λz=>(hch _ z).2.1 rfl) ho I.free
 .obtain⟨v,o,ho,hd⟩:=I.cell x c e;exact free c o (λz=>(hch c z).2.2.1 x c e rfl) ho (I.gM x c e)
 .obtain⟨e,n,ne,nf,d⟩:=I.pin p hp;have nch:p.1∉ch:=λz=>(hch p.1 z).2.2.2 p hp rfl;exact⟨keep p.1 p.2 ne nf nch e n,free p.1 p.2 nch e n,ne,nf,d⟩
theorem Inv.un(I:Inv X pins σ H s)(u:Un X.fs [] H H' s.heap h')(hok:u9 X.prog X.w H' h'):Inv X pins σ H' {s with heap:=h',toks:=t' }:=by
 obtain⟨m,⟨o,es,ep,ho,r⟩,_⟩:=id I.loc;obtain⟨sl,hL⟩:=u.any ho I.free (by simp)
 exact I.step (g':=s.gens) (d':=s.drawn) (ch:=[]) (λ_ z=>nomatch z) (λb o _ hb _ e n=>u.keep b o e n hb (by simp)) (λb o _ hb _ e n=>u.slot b o e n hb (by simp)) (λb o _ e n=>u.free b o e n (by simp)) (λb o _ e=>u.there b o e (by simp)) u.tups u.fK u.nD (λm' hm=>by
  obtain⟨o',es',ep',ho',r'⟩:=hm;rw[ho]at ho';cases ho';exact⟨_,es',ep',hL,r'⟩) hok I.bare
theorem Inv.call(I:Inv X pins σ H s)(u:Un (frs X.stack) ch H H' s.heap h')(hok:u9 X.prog X.w H' h')(hg:AllBare g')
  (hch:∀b∈ch,(b∈X.ex∨X.s₀.heap.objs.size<=b)/\b≠X.env.locals/\(∀x c,X.env.cells.lookup x=aj c->c≠b)/\∀p∈X.pn++pins,p.1≠b) :
  Inv X pins σ H' {s with heap:=h',gens:=g',drawn:=d',toks:=t' }:=by
 obtain⟨m,⟨o,es,ep,ho,r⟩,_⟩:=id I.loc;obtain⟨sl,hL⟩:=u.any ho I.free λz=>(hch _ z).2.1 rfl
 exact I.step (ch:=ch) hch (λb o hL hb hc e n=>u.keep b o e n (λz=>(jm.mp (I.agE b z)).elim hL hb) hc) (λb o _ _ hc e n=>u.any e n hc) (λb o hc e n=>u.free b o e n hc) (λb o hc e=>u.there b o e hc) u.tups u.fK u.nD (λm' hm=>by
  obtain⟨o',es',ep',ho',r'⟩:=hm;rw[ho]at ho';cases ho';exact⟨_,es',ep',hL,r'⟩) hok hg
theorem Inv.turned(I:Inv X pins σ H s)(k:∀b o,b≠it->s.heap.get? b=aj o->h'.get? b=aj o)(hn:H it=aq)(hL:it≠X.env.locals)
  (h1:it∈X.ex∨X.s₀.heap.objs.size<=it)(h2:∀x c,X.env.cells.lookup x=aj c->c≠it)(h3:∀p∈X.pn++pins,p.1≠it):Inv X pins σ H {s with heap:=h',toks:=t' }:=by
 have nit:∀b u,H b=aj u->b≠it:=λb u e z=>by rw[z,hn]at e;cases e
 refine I.step (g':=s.gens) (d':=s.drawn) (ch:=[it]) (λb hb=>?_) (λb o _ _ hc e _=>k b o (λz=>hc (by simp[z])) e) (λb o _ _ hc e _=>⟨o.slots,k b o (λz=>hc (by simp[z])) e⟩) (λ_ _ _ _ n=>n)
  (λb o hc e=>⟨o,k b o (λz=>hc (by simp[z])) e⟩) (λ_ _ e=>e) (λ_ _ _ e=>e) (λb ps e=>⟨#[],by rw[e];simp⟩) (λm hm=>?_) (λb u e=>?_) I.bare
 .have e:b=it:=by simpa using hb
  subst e;exact⟨h1,hL,h2,h3⟩
 .obtain⟨o,es,ep,ho,r⟩:=hm;exact⟨o,es,ep,k _ o (Ne.symm hL) ho,r⟩
 .refine(I.hok b u e).stay (λc v hc q=>k c v ?_ q) (λ_ q=>q) λ_ _ q=>q;rcases hc with z|z
  .rw[z];exact nit b u e
  .exact nit c _ z
theorem Inv.tok(I:Inv X pins σ H s)(t:Nat):Inv X pins σ H {s with toks:=t}:=I.un (h':=s.heap) (t':=t) Un.refl I.hok
theorem Inv.kept{t':Nat}(I:Inv X pins σ H s)(k:∀b u,s.heap.get? b=aj u->h'.get? b=aj u):Inv X pins σ H {s with heap:=h',toks:=t' }:=I.un (Un.kept k) (I.hok.kept k)
theorem Inv.laid{t':Nat}(I:Inv X pins σ H s)(k:∀b u,s.heap.get? b=aj u->h'.get? b=aj u)(hp:s.heap.objs.size<=a)(new:dM X.prog X.w (upd H a o) h' a o) :
  Inv X pins σ (upd H a o) {s with heap:=h',toks:=t' }:=I.un (Un.laid k hp (I.hok.fresh hp)) (I.hok.laid k hp new)
theorem Inv.write{x:bx}{t':Nat}(I:Inv X pins σ H s)(mu:Mut (H x))(he:e=x∨H e=aj (.own x))(k:∀b u,b≠e->s.heap.get? b=aj u->h'.get? b=aj u)(heo:∃u,h'.get? e=aj u)
  (new:dM X.prog X.w (upd H x o) h' x o):Inv X pins σ (upd H x o) {s with heap:=h',toks:=t' }:=I.un (Un.write mu he k heo) (I.hok.write mu he k heo new)
theorem Inv.weak{σ':List (Option V)}(I:Inv X pins σ H s)(hl:σ'.length=σ.length)(w:∀(i:Nat) v,σ'[i]?=aj (aj v)->σ[i]?=aj (aj v)):Inv X pins σ' H s :=
 ⟨I.ok,I.os,I.bare,I.base,let⟨m,hn,hl'⟩:=I.loc;⟨m,hn,λi x v e1 e2 e3=>hl' i x v e1 (w i v e2) e3⟩,I.cell,I.free,I.gM,I.pin,I.hok,hl.trans I.len,I.hnd,I.tup⟩
theorem Inv.aiC(I:Inv X pins σ H s)(h:∀p∈uG,s.heap.get? p.1=aj p.2/\H p.1=aq/\p.1≠X.env.locals/\p.1∉X.fs/\∀v,p.2.data≠.cell v):Inv X uG σ H s :=
 ⟨I.ok,I.os,I.bare,I.base,I.loc,I.cell,I.free,I.gM,λp hp=>(xu.mp hp).elim (λz=>I.pin p (a1f _ z)) (h p),I.hok,I.len,I.hnd,I.tup⟩
theorem a4Z(hN:N.Nodup){j:Nat}(a:N[i]?=aj x)(b:N[j]?=aj x):i=j:=by
 obtain⟨h1,e1⟩:=gj.mp a;obtain⟨h2,e2⟩:=gj.mp b;exact(List.getElem_inj hN).mp (e1.trans e2.symm)
theorem a9H{A:iw}(I:Inv X pins σ H s)(hN:X.N.Nodup)(hi:X.N[i]?=aj x)(hx:Loc X.env.scope x)(r:RelV v u)
  (h:∀s',Inv X pins (σ.set i (aj v)) H s'->(∃a,qw a s.heap s'.heap/\(a=X.env.locals∨X.env.cells.lookup x=aj a))->Q () s')(hf:X.fn x=ak∨X.env.scope.names.lookup x=aj .local:=by first|exact .inl rfl|exact .inr rfl|assumption):cu M A (storeName X.env x u) Q E s:=by
 obtain⟨m,hn,hl⟩:=id I.loc;have hcls:(X.env.scope.kind==.class||(X.env.scope.kind==.module&&X.env.locals !=X.env.globals))=ao:=by rw[I.ok.kind];rfl
 have hiσ:i<σ.length:=by rw[I.len];exact(gj.mp hi).1
 have cne:=I.cne
 have tracked:∀{a:bx}{h':jj},(∃o,s.heap.get? a=aj o/\H a=aq)->qw a s.heap h'->u9 X.prog X.w H h':=λ{a h'} ha hs b ob e=>by
  obtain⟨_,_,hfree⟩:=ha;refine(I.hok b ob e).stay (λc w' hc q=>(hs.2 c ?_).trans q) (λ_ q=>q) λ_ _ q=>q;rintro rfl;rcases hc with rfl|hc
  .rw[hfree]at e;cases e
  .rw[hfree]at hc;cases hc
 rcases hx with hk|hk
 .refine wpAny_storeName_local hk hn (λh' hn' hs=>?_) hcls;obtain⟨oL,_,_,hoL,_⟩:=id hn;refine h _ ⟨I.ok,I.os,I.bare,⟨λb o e n hb hx=>?_,λb o e n hb hx=>?_,I.base.free,λb o e hx=>?_,I.base.tups,I.base.fK,I.base.nD⟩,⟨_,hn',λj y v' e1 e2 e3=>?_⟩,λy c e=>?_,I.free,I.gM,λp hp=>?_,tracked ⟨oL,hoL,I.free⟩ hs,by simpa using I.len,I.hnd,I.tup⟩ ⟨_,hs,.inl rfl⟩
  .exact(hs.2 b (jd (iz (gk e) I.ok.above))).trans (I.base.keep b o e n hb hx)
  .obtain⟨sl,e1⟩:=I.base.slot b o e n hb hx;exact⟨sl,(hs.2 b (jd (iz (gk e) I.ok.above))).trans e1⟩
  .obtain⟨o',e1⟩:=I.base.there b o e hx;exact⟨o',(hs.2 b (jd (iz (gk e) I.ok.above))).trans e1⟩
  .by_cases hj:j=i
   .subst hj;rw[hi]at e1;cases e1;rw[a2c hiσ]at e2;cases e2;exact⟨u,r,.inl ⟨hk,by simp⟩⟩
   .rw[rm (Ne.symm hj)]at e2;obtain⟨u',r',q⟩:=hl j y v' e1 e2 e3;refine⟨u',r',?_⟩;rcases q with⟨k,e⟩|⟨k,c,e,z⟩
    .refine .inl ⟨k,?_⟩;have:y≠x:=λe=>hj (a4Z hN e1 (e ▸ hi));simp[this,e]
    .exact .inr ⟨k,c,e,z.sameBut hs (cne y c e)⟩
  .obtain⟨w',z⟩:=I.cell y c e;exact⟨w',z.sameBut hs (cne y c e)⟩
  .obtain⟨e,n,ne,nf,d⟩:=I.pin p hp;exact⟨(hs.2 p.1 ne).trans e,n,ne,nf,d⟩
 .have hfn:X.fn x=ak:=by
   rcases hf with z|z
   .exact z
   .rw[z]at hk;cases hk
  obtain⟨c,hc⟩:=I.ok.has x (.inl hk);obtain⟨w',z⟩:=I.cell x c hc;refine wpAny_storeName_cell I.ok.kind hk hc z (λh' hc' hs=>?_);obtain⟨oc,hoc,aMH⟩:=id z;refine h {s with heap:=h' } ⟨I.ok,I.os,I.bare,⟨λb o e n hb hx=>?_,λb o e n hb hx=>?_,I.base.free,λb o e hx=>?_,I.base.tups,I.base.fK,I.base.nD⟩,⟨m,hn.sameBut hs (Ne.symm (cne x c hc)),λj y v' e1 e2 e3=>?_⟩,λy c' e=>?_,I.free,I.gM,λp hp=>?_,tracked ⟨oc,hoc,I.gM x c hc⟩ hs,by simpa using I.len,I.hnd,I.tup⟩ ⟨c,hs,.inr hc⟩
  .exact(hs.2 b (jd (iz (gk e) (I.ok.cab x c hfn hc)))).trans (I.base.keep b o e n hb hx)
  .obtain⟨sl,e1⟩:=I.base.slot b o e n hb hx;exact⟨sl,(hs.2 b (jd (iz (gk e) (I.ok.cab x c hfn hc)))).trans e1⟩
  .obtain⟨o',e1⟩:=I.base.there b o e hx;exact⟨o',(hs.2 b (jd (iz (gk e) (I.ok.cab x c hfn hc)))).trans e1⟩
  .by_cases hj:j=i
   .subst hj;rw[hi]at e1;cases e1;rw[a2c hiσ]at e2;cases e2;exact⟨u,r,.inr ⟨.inl hk,c,hc,hc'⟩⟩
   .rw[rm (Ne.symm hj)]at e2;obtain⟨u',r',q⟩:=hl j y v' e1 e2 e3;refine⟨u',r',?_⟩;rcases q with q|⟨k,c',e,z'⟩
    .exact .inl q
    .refine .inr ⟨k,c',e,z'.sameBut hs ?_⟩;rintro rfl;exact hj (a4Z hN e1 (I.ok.inj _ _ _ e hc ▸ hi))
  .by_cases hcc:c'=c
   .subst hcc;exact⟨_,hc'⟩
   .obtain⟨w2,z2⟩:=I.cell y c' e;exact⟨w2,z2.sameBut hs hcc⟩
  .obtain⟨e,n,ne,nf,d⟩:=I.pin p hp;refine⟨(hs.2 p.1 ?_).trans e,n,ne,nf,d⟩;intro q;rw[q,hoc]at e;have q':oc=p.2:=jk.inj e;exact d w' (by rw[←q'];exact aMH)
theorem a5A{A:iw}(I:Inv X pins σ H s)(hN:X.N.Nodup)(hi:X.N[i]?=aj x)(hx:Loc X.env.scope x)(r:RelV v u)
  (h:∀s',Inv X pins (σ.set i (aj v)) H s'->Q () s')(hf:X.fn x=ak∨X.env.scope.names.lookup x=aj .local:=by first|exact .inl rfl|exact .inr rfl|assumption):cu M A (storeName X.env x u) Q E s :=
 a9H I hN hi hx r (λs' I' _=>h s' I') hf
theorem Inv.call'{s':cj}(I:Inv X pins σ H s)(ho:s'.os=s.os)(u:Un (frs X.stack) ch H H' s.heap s'.heap)(hok:u9 X.prog X.w H' s'.heap)(hg:AllBare s'.gens)
  (hch:∀b∈ch,(b∈X.ex∨X.s₀.heap.objs.size<=b)/\b≠X.env.locals/\(∀x c,X.env.cells.lookup x=aj c->c≠b)/\∀p∈X.pn++pins,p.1≠b):Inv X pins σ H' s':=by
 obtain⟨h',g',d',t',o'⟩:=s';have e:o'=s.os:=ho;subst e;exact I.call (g':=g') (t':=t') (d':=d') u hok hg hch
end
abbrev XK:=Value->Option bx->Hp->Prop
noncomputable abbrev St:=List (Option V)
abbrev VK:=V->Hp->Prop
abbrev TE:=St->Hp->VK->Prop
abbrev TT:=St->Hp->(Bool->Hp->Prop)->Prop
abbrev TA:=St->Hp->(List V->Hp->Prop)->Prop
structure Ends where
 nx:St->Hp->Prop
 rt:VK
 bk:St->Hp->Prop:=λ_ _=>False
 ct:St->Hp->Prop:=λ_ _=>False
abbrev TS:=Ends->St->Hp->Prop
def EP(X:Cx)(pins:List (bx×Obj))(σ:St)(Q:VK)(u:bh)(s':cj):Prop:=∃v H',Inv X pins σ H' s'/\RelV v u/\Q v H'
def TP(X:Cx)(pins:List (bx×Obj))(σ:St)(Q:Bool->Hp->Prop)(b:Bool)(s':cj):Prop:=∃H',Inv X pins σ H' s'/\Q b H'
def AP(X:Cx)(pins:List (bx×Obj))(σ:St)(Q:List V->Hp->Prop)(us:List bh)(s':cj):Prop:=∃vs H',Inv X pins σ H' s'/\Vals vs us/\Q vs H'
set_option tactic.hygienic true in
noncomputable def SP(X:Cx)(pins:List (bx×Obj))(D:Ends)(f:Flow)(s':cj):Prop :=
 match f with
 |.next=>∃σ' H',Inv X pins σ' H' s'/\D.nx σ' H'
 |.brk=>∃σ' H',Inv X pins σ' H' s'/\D.bk σ' H'
 |.cont=>∃σ' H',Inv X pins σ' H' s'/\D.ct σ' H'
 |.ret u=>∃v σ' H',Inv X pins σ' H' s'/\RelV v u/\D.rt v H'
class Tk(b:Bool)(s:cj):Prop where
 pos:b=ak->0<s.toks
class TkI(s:outParam cj)(s':cj):Prop where
 imp:0<s.toks->0<s'.toks
instance aLE{b:Bool}{s s':cj}[i:TkI s s'][j:Tk b s]:Tk b s':=⟨λz=>i.imp (j.pos z)⟩
instance aPI{s:cj}:Tk ao s:=⟨λz=>nomatch z⟩
instance aLF{b:Bool}{h:jj}{g:Array GenState}{d:Drawn}{n:Nat}{os}:Tk b ⟨h,g,d,n+1,os⟩:=⟨λ_=>Nat.succ_pos _⟩
instance aLG{b:Bool}{s:cj}{h:jj}{g:Array GenState}{d:Drawn}{os}[j:Tk b s]:Tk b ⟨h,g,d,s.toks,os⟩:=⟨j.pos⟩
noncomputable def PE(X:Cx)(e:jf)(t:TE):Prop :=
 ∀(pins:List (bx×Obj))(s:cj)(σ:St)(H:Hp)(Q:VK),Inv X pins σ H s->t σ H Q->[Tk X.need s]->cu (fj X.prog X.w) X.A (eval e X.env) (EP X pins σ Q) X.xe s
noncomputable def PT(X:Cx)(e:jf)(t:TT):Prop :=
 ∀(pins:List (bx×Obj))(s:cj)(σ:St)(H:Hp)(Q:Bool->Hp->Prop),Inv X pins σ H s->t σ H Q->[Tk X.need s]->cu (fj X.prog X.w) X.A (isTrue e X.env (eval e X.env)) (TP X pins σ Q) X.xe s
noncomputable def PW(X:Cx)(e:jf)(t:TT):Prop :=
 ∀(whole:Sem bh)(pins:List (bx×Obj))(s:cj)(σ:St)(H:Hp)(Q:Bool->Hp->Prop),Inv X pins σ H s->t σ H Q->[Tk X.need s]->cu (fj X.prog X.w) X.A (isTrue e X.env whole) (TP X pins σ Q) X.xe s
theorem PW.pt{t:TT}(h:PW X e t):PT X e t:=h _
noncomputable def PA(X:Cx)(es:List jf)(t:TA):Prop :=
 ∀(pos:Pos)(pins:List (bx×Obj))(s:cj)(σ:St)(H:Hp)(Q:List V->Hp->Prop),Inv X pins σ H s->t σ H Q->[Tk X.need s]->cu (fj X.prog X.w) X.A (spliced (yh pos (je es X.env))) (AP X pins σ Q) X.xe s
noncomputable def PS(X:Cx)(st:kj)(t:TS):Prop :=
 ∀(pins:List (bx×Obj))(s:cj)(σ:St)(H:Hp)(D:Ends),Inv X pins σ H s->t D σ H->[Tk X.need s]->cu (fj X.prog X.w) X.A (exec st X.env) (SP X pins D) X.xe s
noncomputable def PSs(X:Cx)(st:List kj)(t:TS):Prop :=
 ∀(pins:List (bx×Obj))(s:cj)(σ:St)(H:Hp)(D:Ends),Inv X pins σ H s->t D σ H->[Tk X.need s]->cu (fj X.prog X.w) X.A (execs st X.env) (SP X pins D) X.xe s
theorem cL{α:Type}{t:Sem α}{Q Q':α->cj->Prop}{M:Model}{A:iw}{E:bh->cj->Prop}{s:cj}(h:cu M A t Q E s)(hQ:∀a s1,Q a s1->[TkI s s1]->Q' a s1):cu M A t Q' E s:=λΓ p g=>by
 by_cases c:0<s.toks
 .exact Sem.wp_mono M Γ t (λa p s' z=>@hQ a s' z.2 ⟨λ_=>z.1⟩) (λ_ _ _ z=>z.2) p s (Sem.wp_toks M Γ 1 t _ _ p s c (h Γ p g))
 .exact Sem.wp_mono M Γ t (λa p s' z=>@hQ a s' z ⟨λz=>absurd z c⟩) (λ_ _ _ z=>z) p s (h Γ p g)
end
variable{pins:List (bx×Obj)}{pos:Pos}
section
section
variable{X:Cx}
theorem bin{a b:jf}{ta tb:TE}(ha:PE X a ta)(hb:PE X b tb){s:cj}{σ:St}{H:Hp}{R:V->V->Hp->Prop}[Tk X.need s](I:Inv X pins σ H s)(h:ta σ H λx H1=>tb σ H1 λy H2=>R x y H2)
  {α:Type}{Q:α->cj->Prop}{f:bh->bh->Sem α}
  (hf:∀v u s2 x y H2,Inv X pins σ H2 s2->RelV x v->RelV y u->R x y H2->cu (fj X.prog X.w) X.A (f v u) Q X.xe s2) :
  cu (fj X.prog X.w) X.A (eval a X.env) (λv s₁=>cu (fj X.prog X.w) X.A (eval b X.env) (λu s₂=>cu (fj X.prog X.w) X.A (f v u) Q X.xe s₂) X.xe s₁) X.xe s:=by
 refine cL (ha pins s σ H _ I h) ?_;rintro v s1 ⟨x,H1,I1,r1,q1⟩;refine cL (hb pins s1 σ H1 _ I1 q1) ?_;rintro u s2 ⟨y,H2,I2,r2,q2⟩;exact hf v u s2 x y H2 I2 r1 r2 q2
noncomputable def aAO(i:Nat):TE:=λσ H Q=>∃v,σ[i]?=aj (aj v)/\Q v H
noncomputable def tC(v:V):TE:=λ_ H Q=>Q v H
theorem an7{i:Nat}(hN:X.N[i]?=aj x)(hv:Vis X.env.scope x)(hd:(x==("__debug__":Str))=ao:=by decide)(hcd:(x==("__classdict__":Str))=ao:=by decide):PE X (.Name x pos) (aAO i):=by
 intro pins s σ H Q I h _tk;obtain⟨v,e,h⟩:=h;obtain⟨m,hn,hl⟩:=I.loc;obtain⟨u,r,l⟩:=hl i x v hN e hv;have fin:EP X pins σ Q u s:=⟨v,H,I,r,h⟩;rcases l with⟨hk,hm⟩|⟨hk,c,hc,hcell⟩
 .exact wpAny_Name (wpAny_loadName_local I.ok.kind hk hn hm fin) hd
 .rcases hk with hk|hk
  .exact wpAny_Name (wpAny_loadName_cell I.ok.kind hk hc hcell fin) hd
  .exact wpAny_Name (wpAny_loadName_free I.ok.kind hk hc hcell fin hcd) hd
theorem aAP{i j pos}:PE X (.Constant (.int i) j pos) (tC (.int i)):=λ_ _ _ H _ I h=>wpAny_Constant_int ⟨.int i,H,I.tok _,⟨_,rfl⟩,h⟩
theorem aGN{b j pos}:PE X (.Constant (.bool b) j pos) (tC (.bl b)):=λ_ _ _ H _ I h=>Constant_bool ⟨.bl b,H,I,rfl,h⟩
theorem aAQ{j pos}:PE X (.Constant .none j pos) (tC .non):=λ_ _ _ H _ I h=>Constant_none ⟨.non,H,I,rfl,h⟩
theorem aAR{x j pos}:PE X (.Constant (.str x) j pos) (tC (.str x)):=λ_ _ _ H _ I h=>Calls.Constant_str ⟨.str x,H,I.tok _,⟨_,rfl⟩,h⟩
def Gl(X:Cx)(x:Str):Prop:=X.env.kindOf x=aj .globalImplicit
theorem mH(I:Inv X pins σ H s)(hg:Gl X x)(hm:X.mg x=aj u)(h:Q u s)
  (hd:(x==("__debug__":Str))=ao:=by decide):cu (fj X.prog X.w) X.A (eval (.Name x pos) X.env) Q E s :=
 Calls.Name_function_global I.ok.kind hg (Calls.loadGlobal_global (by rw[I.ok.glob];exact I.mod.glob.keeps I.bk) hm h) hd
theorem rJ(I:Inv X pins σ H s)(hg:Gl X x)(hm:X.mg x=aq)(hv:jr x=aj u)(h:Q u s)
  (hn:x≠"__name__":=by decide)(hd:(x==("__debug__":Str))=ao:=by decide):cu (fj X.prog X.w) X.A (eval (.Name x pos) X.env) Q E s:=by
 obtain⟨mb,h1,h2⟩:=I.mod.blt;exact Calls.Name_function_global I.ok.kind hg (Calls.loadGlobal_builtin (by rw[I.ok.glob];exact I.mod.glob.keeps I.bk) hm (by rw[I.ok.blt];exact h1.keeps I.bk) ((h2 x hn).trans hv) h) hd
theorem au2(hg:Gl X x)(hm:X.mg x=aj u)(r:RelV v u)(hd:(x==("__debug__":Str))=ao:=by decide):PE X (.Name x pos) (tC v) :=
 λ_ _ _ H _ I h=>mH I hg hm ⟨v,H,I,r,h⟩ hd
theorem au3(hg:Gl X x)(hm:X.mg x=aq)(hv:jr x=aj u)(r:RelV v u)(hn:x≠"__name__":=by decide)(hd:(x==("__debug__":Str))=ao:=by decide):PE X (.Name x pos) (tC v) :=
 λ_ _ _ H _ I h=>rJ I hg hm hv ⟨v,H,I,r,h⟩ hn hd
variable{a b:jf}{ta tb:TE}{pos:Pos}
noncomputable def PC(X:Cx)(op:yc)(a b:jf)(t:TE):Prop :=
 ∀(pins:List (bx×Obj))(s:cj)(σ:St)(H:Hp)(Q:VK),Inv X pins σ H s->t σ H Q ->
  [Tk X.need s]->cu (fj X.prog X.w) X.A (eval a X.env) (λv s₁=>cu (fj X.prog X.w) X.A (eval b X.env) (λu s₂=>cu (fj X.prog X.w) X.A (jg op v u) (EP X pins σ Q) X.xe s₂) X.xe s₁) X.xe s
theorem a5B(b:jf)(h:op≠.In)(h2:op≠.NotIn):yq op b=ao:=by
 have e1:(op==yc.In)=ao:=by cases op<;>first|rfl|exact absurd rfl h
 have e2:(op==yc.NotIn)=ao:=by cases op<;>first|rfl|exact absurd rfl h2
 cases b<;>simp[yq,e1,e2]
noncomputable def tB(t:TE):TT:=λσ H Q=>t σ H λx H1=>∃c,x=.bl c/\Q c H1
theorem aMI{t:TE}(h:PC X op a b t)(h1:yq op b=ao:=by first|exact a5B _ (by decide) (by decide)|rfl):PT X (.Compare a [op] [b] pos) (tB t):=by
 intro pins s σ H Q I hw;refine wpAny_isTrue_Compare1 (cL (h pins s σ H _ I hw) λv s1 h1=>cL h1 λu s2 h2=>cL h2 ?_) h1;rintro c s3 ⟨x,H1,I1,r1,q1⟩;obtain⟨d,rfl,q⟩:=q1;cases r1;exact um ⟨H1,I1,q⟩
theorem aAS{e:jf}{t:TE}(h:PE X e t)(he:∀whole,isTrue e X.env whole=(do let v ←whole;standAt e.pos;a0g [v] (truthy v)):=by intro _;rfl):PT X e (tB t):=by
 intro pins s σ H Q I hw;refine isTrue_plain (cL (h pins s σ H _ I hw) ?_) (he _);rintro v s1 ⟨x,H1,I1,r1,q1⟩;obtain⟨d,rfl,q⟩:=q1;cases r1;exact um ⟨H1,I1,q⟩
variable{rest:List jf}
noncomputable def aGO(t u:TT):TT:=λσ H Q=>t σ H λc H1=>if c=ak then u σ H1 Q else Q ao H1
noncomputable def tOr(t u:TT):TT:=λσ H Q=>t σ H λc H1=>if c=ak then Q ak H1 else u σ H1 Q
noncomputable def aMJ(t:TT):TT:=λσ H Q=>t σ H λc H1=>Q (!c) H1
theorem au4(ha:PT X a tA):PW X (.BoolOp .And [a] pos) tA:=by
 intro wh pins s σ H Q I h;refine isTrue_and (cL (ha pins s σ H Q I h) λc s1 e=>?_);intro aGP;cases c with
 |true=>exact isTrue_and_nil e
 |false=>exact e
theorem aAT(ha:PT X a tA):PW X (.BoolOp .Or [a] pos) tA:=by
 intro wh pins s σ H Q I h;refine isTrue_or (cL (ha pins s σ H Q I h) λc s1 e=>?_);intro aQO;cases c with
 |false=>exact isTrue_or_nil e
 |true=>exact e
theorem aAU(ha:PT X a tA)(hb:PW X (.BoolOp .And (b::rest) pos) tB'):PW X (.BoolOp .And (a::b::rest) pos) (aGO tA tB'):=by
 intro wh pins s σ H Q I h;refine isTrue_and (cL (ha pins s σ H _ I h) ?_);rintro c s1 ⟨H1,I1,q1⟩;cases c with
 |true=>exact hb wh pins s1 σ H1 Q I1 q1
 |false=>exact⟨H1,I1,q1⟩
theorem aGQ(ha:PT X a tA)(hb:PW X (.BoolOp .Or (b::rest) pos) tB'):PW X (.BoolOp .Or (a::b::rest) pos) (tOr tA tB'):=by
 intro wh pins s σ H Q I h;refine isTrue_or (cL (ha pins s σ H _ I h) ?_);rintro c s1 ⟨H1,I1,q1⟩;cases c with
 |true=>exact⟨H1,I1,q1⟩
 |false=>exact hb wh pins s1 σ H1 Q I1 q1
theorem aAV(ha:PT X a tA):PT X (.UnaryOp .Not a pos) (aMJ tA):=by
 intro pins s σ H Q I h _tk;exact isTrue_not (ha pins s σ H (λc H1=>Q (!c) H1) I h)
noncomputable def aGR(ta tb:TE):TE:=λσ H Q=>ta σ H λx H1=>∃c,x=.bl c/\if c=ak then tb σ H1 Q else Q (.bl ao) H1
noncomputable def aMK(ta tb:TE):TE:=λσ H Q=>ta σ H λx H1=>∃c,x=.bl c/\if c=ak then Q (.bl ak) H1 else tb σ H1 Q
noncomputable def aGS(ta:TE):TE:=λσ H Q=>ta σ H λx H1=>∃c,x=.bl c/\Q (.bl (!c)) H1
theorem aAW{op}{t:TE}(h:PE X a t):PE X (.BoolOp op [a] pos) t:=λpins s σ H Q I hw=>BoolOp_one (h pins s σ H Q I hw)
theorem aAX(ha:PE X a ta)(hb:PE X (.BoolOp .And (b::rest) pos) tb):PE X (.BoolOp .And (a::b::rest) pos) (aGR ta tb):=by
 intro pins s σ H Q I h _tk;refine BoolOp_and (cL (ha pins s σ H _ I h) ?_);rintro v s1 ⟨x,H1,I1,r1,q1⟩;obtain⟨c,rfl,q1⟩:=q1;cases r1;refine um ?_;cases c with
 |true=>exact hb pins s1 σ H1 Q I1 q1
 |false=>exact⟨.bl ao,H1,I1,rfl,q1⟩
theorem aGT(ha:PE X a ta)(hb:PE X (.BoolOp .Or (b::rest) pos) tb):PE X (.BoolOp .Or (a::b::rest) pos) (aMK ta tb):=by
 intro pins s σ H Q I h _tk;refine BoolOp_or (cL (ha pins s σ H _ I h) ?_);rintro v s1 ⟨x,H1,I1,r1,q1⟩;obtain⟨c,rfl,q1⟩:=q1;cases r1;refine um ?_;cases c with
 |false=>exact hb pins s1 σ H1 Q I1 q1
 |true=>exact⟨.bl ak,H1,I1,rfl,q1⟩
theorem aAY(ha:PE X a ta):PE X (.UnaryOp .Not a pos) (aGS ta):=by
 intro pins s σ H Q I h _tk;refine UnaryOp_ (cL (ha pins s σ H _ I h) ?_);rintro v s1 ⟨x,H1,I1,r1,q1⟩;obtain⟨c,rfl,q1⟩:=q1;cases r1;exact not_of (um ⟨.bl (!c),H1,I1,rfl,q1⟩)
noncomputable def tIf(t:TT)(ta tb:TE):TE:=λσ H Q=>t σ H λc H1=>if c=ak then ta σ H1 Q else tb σ H1 Q
theorem an8(hc:PT X c tA)(ha:PE X a ta)(hb:PE X b tb):PE X (.IfExp c a b pos) (tIf tA ta tb):=by
 intro pins s σ H Q I h _tk;refine wpAny_IfExp (cL (hc pins s σ H _ I h) ?_);rintro d s1 ⟨H1,I1,q1⟩;cases d with
 |true=>exact ha pins s1 σ H1 Q I1 q1
 |false=>exact hb pins s1 σ H1 Q I1 q1
end
end
variable{n:Nat}{cm:Bool}
section
noncomputable def pO(K:ig)(H:Hp)(a:bx)(xs:List V):Prop :=
 Rd H a (.lst xs) ∨
  ∃(o:Obj)(its:Array bh)(n:Nat),K.lookup a=aj o/\o.cls=.type "list"/\o.dict=aq/\o.data=.seq its n/\its.size<=dg/\Vals xs its.toList
noncomputable def oH(K:ig)(H:Hp)(a:bx)(xs:List V):Prop :=
 Rd H a (.tup xs) ∨
  ∃(o:Obj)(its:Array bh)(n:Nat),K.lookup a=aj o/\o.cls=.type "tuple"/\o.dict=aq/\o.data=.seq its n/\its.size<=dg/\Vals xs its.toList
noncomputable def aML:bh->Option V
 |.none=>aj .non
 |.bool b=>aj (.bl b)
 |.int i _=>aj (.int i)
 |.str x _=>aj (.str x)
 |.bytes b _=>aj (.byt b)
 |.float b _=>aj (.flt b)
 |.ref a=>aj (.ref a)
 |.type n=>aj (.ty n)
 |_=>aq
theorem RelV.abs{x:V}(r:RelV x u):aML u=aj x:=by
 cases x with
 |non=>cases r;rfl
 |bl _=>cases r;rfl
 |int _=>obtain⟨t,rfl⟩:=r;rfl
 |str _=>obtain⟨t,rfl⟩:=r;rfl
 |byt _=>obtain⟨t,rfl⟩:=r;rfl
 |flt _=>obtain⟨t,rfl⟩:=r;rfl
 |ref _=>cases r;rfl
 |ty _=>cases r;rfl
theorem RelV.inj{x:V}(r:RelV x u)(q:RelV y u):x=y:=jk.inj (r.abs.symm.trans q.abs)
theorem Vals.inj:∀{xs ys:List V}{us:List bh},Vals xs us->Vals ys us->xs=ys
 |_,_,_,.nil,.nil=>rfl
 |_,_,_,.cons r t,.cons r' t'=>by rw[r.inj r',Vals.inj t t']
section
variable{X:Cx}{pins:List (bx×Obj)}{s:cj}{xs:List V}
theorem pO.of{K:ig}(h:H a=aj (.lst xs)):pO K H a xs:=.inl (.inl h)
theorem oH.of{K:ig}(h:H a=aj (.tup xs)):oH K H a xs:=.inl (.inl h)
theorem Inv.list(I:Inv X pins σ H s)(h:pO X.K H a xs):∃its:List bh,Vals xs its/\PlainL s.heap a its.toArray/\xs.length<=dg:=by
 rcases h with h|⟨o,its,n,hk,hc,hd,hs,hz,r⟩
 .obtain⟨z,its,n,r,e⟩:=h.ok I.hok;exact⟨its,r,⟨_,n,e,rfl,rfl,rfl⟩,z⟩
 .refine⟨its.toList,r,⟨o,n,I.kIn a o hk,hc,hd,by simpa using hs⟩,?_⟩;have e:=r.length;simp only[a0a]at e;omega
theorem Inv.tuple(I:Inv X pins σ H s)(h:oH X.K H a xs):∃its:List bh,Vals xs its/\IsTup s.heap a its.toArray/\xs.length<=dg:=by
 rcases h with h|⟨o,its,n,hk,hc,hd,hs,hz,r⟩
 .obtain⟨z,its,r,p⟩:=h.ok I.hok;exact⟨its,r,p,z⟩
 .refine⟨its.toList,r,⟨o,I.kIn a o hk,hc,n,by simpa using hs⟩,?_⟩;have e:=r.length;simp only[a0a]at e;omega
theorem Inv.z6(I:Inv X pins σ H s)(h:pO X.K H a xs)(h':pO X.K H a ys):xs=ys:=by
 obtain⟨its,r,⟨o,n,e,_,_,d⟩,_⟩:=I.list h;obtain⟨its',r',⟨o',n',e',_,_,d'⟩,_⟩:=I.list h';rw[e]at e';cases e';rw[d]at d';injection d' with d1 _;have:its=its':=by simpa using congrArg Array.toList d1
 subst this;exact r.inj r'
theorem Inv.wG(I:Inv X pins σ H s)(h:oH X.K H a xs)(h':oH X.K H a ys):xs=ys:=by
 obtain⟨its,r,⟨o,e,_,n,d⟩,_⟩:=I.tuple h;obtain⟨its',r',⟨o',e',_,n',d'⟩,_⟩:=I.tuple h';rw[e]at e';cases e';rw[d]at d';injection d' with d1 _;have:its=its':=by simpa using congrArg Array.toList d1
 subst this;exact r.inj r'
end
noncomputable abbrev Cx.wish(X:Cx)(E:bh->cj->Prop):Cx:={X with xe:=E}
noncomputable abbrev Cx.nox(X:Cx):Cx:=X.wish λ_ _=>False
theorem Cx.Ok.wish{X:Cx}(ok:X.Ok)(E:bh->cj->Prop):(X.wish E).Ok :=
 ⟨ok.mod,ok.kind,ok.glob,ok.blt,ok.above,ok.inj,ok.has,ok.cab,ok.hd,ok.frames,ok.stk,ok.exf,ok.bs,ok.bsz,ok.a3K,ok.a4Y,ok.nF,ok.frf⟩
theorem Cx.Ok.pF{X:Cx}(ok:(X.wish E).Ok):X.Ok :=
 ⟨ok.mod,ok.kind,ok.glob,ok.blt,ok.above,ok.inj,ok.has,ok.cab,ok.hd,ok.frames,ok.stk,ok.exf,ok.bs,ok.bsz,ok.a3K,ok.a4Y,ok.nF,ok.frf⟩
section
variable{X:Cx}{pins:List (bx×Obj)}
theorem Inv.wish(I:Inv X pins σ H s)(E:bh->cj->Prop):Inv (X.wish E) pins σ H s:=⟨I.ok.wish E,I.os,I.bare,I.base,I.loc,I.cell,I.free,I.gM,I.pin,I.hok,I.len,I.hnd,I.tup⟩
theorem Inv.pF(I:Inv (X.wish E) pins σ H s):Inv X pins σ H s:=⟨I.ok.pF,I.os,I.bare,I.base,I.loc,I.cell,I.free,I.gM,I.pin,I.hok,I.len,I.hnd,I.tup⟩
set_option tactic.hygienic true in
theorem SP.pF{D:Ends}(h:SP (X.wish E) pins D f s'):SP X pins D f s':=by
 cases f with
 |next=>obtain⟨σ',H',I,q⟩:=h;exact⟨σ',H',I.pF,q⟩
 |brk=>obtain⟨σ',H',I,q⟩:=h;exact⟨σ',H',I.pF,q⟩
 |cont=>obtain⟨σ',H',I,q⟩:=h;exact⟨σ',H',I.pF,q⟩
 |ret u=>obtain⟨v,σ',H',I,r,q⟩:=h;exact⟨v,σ',H',I.pF,r,q⟩
theorem PE.nox{t:TE}(h:PE X.nox e t):PE X e t:=λpins s σ H Q I hw =>
 lg (h pins s σ H Q (I.wish _) hw) (λ_ _ ⟨v,H',I',r,q⟩=>⟨v,H',I'.pF,r,q⟩) λ_ _ z=>False.elim z
theorem PT.nox{t:TT}(h:PT X.nox e t):PT X e t:=λpins s σ H Q I hw =>
 lg (h pins s σ H Q (I.wish _) hw) (λ_ _ ⟨H',I',q⟩=>⟨H',I'.pF,q⟩) λ_ _ z=>False.elim z
theorem PSs.nox{st:List kj}{t:TS}(h:PSs X.nox st t):PSs X st t:=λpins s σ H D I hw =>
 lg (h pins s σ H D (I.wish _) hw) (λ_ _ q=>q.pF) λ_ _ z=>False.elim z
end
section
variable{X:Cx}{st:kj}{rest:List kj}{t u:TS}{te:TE}{pos:Pos}
noncomputable def az4:TS:=λD σ H=>D.nx σ H
noncomputable def aAZ(t u:TS):TS:=λD σ H=>t {D with nx:=u D} σ H
theorem au5:PSs X [] az4:=λ_ _ σ H _ I h=>wpAny_execs_nil ⟨σ,H,I,h⟩
set_option tactic.hygienic true in
theorem an9(h1:PS X st t)(h2:PSs X rest u):PSs X (st::rest) (aAZ t u):=by
 intro pins s σ H D I h _tk;refine wpAny_execs_cons (cL (h1 pins s σ H {D with nx:=u D} I h) λf s1 q=>?_);intro aQQ;cases f with
 |next =>
  obtain⟨σ',H',I',q⟩:=q;exact h2 pins s1 σ' H' D I' q
 |ret v=>exact q
 |brk=>exact q
 |cont=>exact q
set_option tactic.hygienic true in
theorem au6(h1:PS X st t):PSs X [st] t:=by
 intro pins s σ H D I h _tk;refine wpAny_execs_cons (cL (h1 pins s σ H D I h) λf s1 q=>?_);intro aQR;cases f with
 |next=>exact wpAny_execs_nil q
 |ret v=>exact q
 |brk=>exact q
 |cont=>exact q
theorem au7:PS X (.Pass pos) az4:=λ_ _ σ H _ I h=>wpAny_Pass ⟨σ,H,I,h⟩
theorem Inv.quiet(I:Inv X pins σ H s):interactive X.env=ao:=by simp[interactive,I.ok.kind]
noncomputable def aGU(te:TE):TS:=λD σ H=>te σ H λ_ H1=>D.nx σ H1
theorem au8(he:PE X e te)(hs:a0z e aq pos.line X.env=pure ao:=by rfl):PS X (.Expr e pos) (aGU te):=by
 intro pins s σ H D I h _tk;exact wpAny_Expr_any (cL (he pins s σ H _ I h) (by rintro v s1 ⟨x,H1,I1,r1,q1⟩;exact⟨σ,H1,I1,q1⟩)) I.quiet hs
noncomputable def aMM(te:TE):TS:=λD σ H=>te σ H D.rt
theorem aB0(he:PE X e te):PS X (.Return (aj e) pos) (aMM te):=by
 intro pins s σ H D I h _tk;exact wpAny_Return_some (cL (he pins s σ H _ I h) (by rintro v s1 ⟨x,H1,I1,r1,q1⟩;exact⟨x,σ,H1,I1,r1,q1⟩))
noncomputable def aMN(c:TT)(t u:TS):TS:=λD σ H=>c σ H λb H1=>if b=ak then t D σ H1 else u D σ H1
theorem aGV{b:List kj}(hc:PT X c tc)(ha:PSs X a t)(hb:PSs X b u):PS X (.If c a b pos) (aMN tc t u):=by
 intro pins s σ H D I h _tk;refine wpAny_If (cL (hc pins s σ H _ I h) ?_);rintro d s1 ⟨H1,I1,q1⟩;cases d with
 |true=>exact ha pins s1 σ H1 D I1 q1
 |false=>exact hb pins s1 σ H1 D I1 q1
end
abbrev TG:=V->St->Hp->(St->Hp->Prop)->Prop
abbrev TGs:=List V->St->Hp->(St->Hp->Prop)->Prop
noncomputable def PG(X:Cx)(target:jf)(t:TG):Prop :=
 ∀(pins:List (bx×Obj))(s:cj)(σ:St)(H:Hp)(v:V)(u:bh)(Q:St->Hp->Prop),Inv X pins σ H s->RelV v u->t v σ H Q ->
  [Tk X.need s]->cu (fj X.prog X.w) X.A (assign target X.env u) (λ_ s'=>∃σ' H',Inv X pins σ' H' s'/\Q σ' H') X.xe s
noncomputable def PGs(X:Cx)(ts:List jf)(t:TGs):Prop :=
 ∀(pins:List (bx×Obj))(s:cj)(σ:St)(H:Hp)(vs:List V)(us:List bh)(Q:St->Hp->Prop),Inv X pins σ H s->Vals vs us->t vs σ H Q ->
  [Tk X.need s]->cu (fj X.prog X.w) X.A (assignInOrder ((a0e ts X.env).map (·.2)) us) (λ_ s'=>∃σ' H',Inv X pins σ' H' s'/\Q σ' H') X.xe s
abbrev aB1:=V->V->V->Hp->(Hp->Prop)->Prop
noncomputable def aGX(X:Cx)(t:aB1):Prop :=
 ∀(pins:List (bx×Obj))(s:cj)(σ:St)(H:Hp)(o i v:V)(ov iv u:bh)(Q:Hp->Prop),Inv X pins σ H s->RelV o ov->RelV i iv->RelV v u->t o i v H Q ->
  cu (fj X.prog X.w) X.A (setItem ov iv u) (λ_ s'=>∃H',Inv X pins σ H' s'/\Q H') X.xe s
section
variable{X:Cx}{pos:Pos}
noncomputable def aiD(i:Nat):TG:=λv σ H Q=>Q (σ.set i (aj v)) H
theorem ab0{i:Nat}(hN:X.N.Nodup)(hi:X.N[i]?=aj x)(hx:Loc X.env.scope x)(hf:X.fn x=ak∨X.env.scope.names.lookup x=aj .local:=by first|exact .inl rfl|exact .inr rfl|assumption):PG X (.Name x pos) (aiD i):=by
 intro pins s σ H v u Q I r h;exact wpAny_assign_Name (a5A I hN hi hx r (λs' I'=>⟨_,H,I',h⟩) hf)
noncomputable def aGY:TGs:=λvs σ H Q=>vs=[]/\Q σ H
noncomputable def az6(t:TG)(u:TGs):TGs:=λvs σ H Q=>∃v r,vs=v::r/\t v σ H λσ' H'=>u r σ' H' Q
theorem au9:PGs X [] aGY:=by
 intro pins s σ H vs us Q I r h;obtain⟨e,h⟩:=h;subst e;cases r;exact assignInOrder_nil ⟨σ,H,I,h⟩
theorem anA{t:TG}(h1:PG X e t)(h2:PGs X es u)
  (hs:(a0e (e::es) X.env).map (·.2)=assign e X.env::(a0e es X.env).map (·.2):=by rfl):PGs X (e::es) (az6 t u):=by
 intro pins s σ H vs us Q I r h;obtain⟨v,vr,e1,h⟩:=h;subst e1;cases r with
 |cons r rr =>
  rw[hs];refine assignInOrder_cons (cL (h1 pins s σ H _ _ _ I r h) ?_);rintro _ s1 ⟨σ1,H1,I1,q1⟩;exact h2 pins s1 σ1 H1 _ _ Q I1 rr q1
noncomputable def aMO(K:ig)(n:Nat)(t:TGs):TG:=λv σ H Q=>∃a xs,v=.ref a/\oH K H a xs/\xs.length=n/\t xs σ H Q
theorem anB{k:Nat}{t:TGs}(hc:X.calm=ak)(h:PGs X es t)
  (hn:(a0e es X.env).length=n:=by rfl)(hst:(a0e es X.env).findIdx? (·.1)=aq:=by rfl):PG X (.Tuple es k pos) (aMO X.K n t):=by
 intro pins s σ H v u Q I r hw;obtain⟨a,xs,e1,hq,hl,hw⟩:=hw;subst e1;cases r;obtain⟨its,rv,ht,hz⟩:=I.tuple hq;refine assign_Tuple_tuple (I.ok.hd hc) ht (by simp[hn,←hl,rv.length]) hst λh' hx=>?_;have I1:Inv X pins σ H {s with heap:=h' }:=I.kept (t':=s.toks) λb o e=>hx b o (jd (gk e)) e;exact h pins _ σ H xs _ Q I1 (by simpa using rv) hw
noncomputable def aMP(to ti:TE)(t:aB1):TG:=λv σ H Q=>to σ H λo H1=>ti σ H1 λi H2=>t o i v H2 λH3=>Q σ H3
theorem aB2{t:aB1}(ho:PE X o to)(hi:PE X i ti)(hs:aGX X t)
  (ha:∀v,assign (.Subscript o i pos) X.env v=(do
   let ov ←a0g [v] (eval o X.env)
   let iv ←a0g [v,ov] (eval i X.env)
   standAt pos
   a0g [v,ov,iv] (setItem ov iv v)
   release [v,ov,iv] []):=by intro _;rfl):PG X (.Subscript o i pos) (aMP to ti t):=by
 intro pins s σ H v u Q I r h;rw[ha];refine au (qb (cL (ho pins s σ H _ I h) ?_));rintro ov s1 ⟨x,H1,I1,r1,q1⟩;refine au (qb (cL (hi pins s1 σ H1 _ I1 q1) ?_));rintro iv s2 ⟨y,H2,I2,r2,q2⟩;refine au (a1h (au (qb (cL (hs pins s2 σ H2 x y v ov iv u _ I2 r1 r2 r q2) ?_))));rintro _ s3 ⟨H3,I3,q3⟩;exact wpAny_release ⟨σ,H3,I3,q3⟩
noncomputable def aGZ(te:TE)(g:TG):TS:=λD σ H=>te σ H λx H1=>g x σ H1 D.nx
theorem aB3{g:TG}(he:PE X e te)(hg:PG X tg g)(hs:swapsWithSole [tg] e pos.line X.env=pure ao:=by rfl)(hw:swappedStores [tg] e X.env=pure aq:=by rfl)
  (h1:(a0e [tg] X.env).map (·.2)=[assign tg X.env]:=by rfl):PS X (.Assign [tg] e pos) (aGZ te g):=by
 intro pins s σ H D I h _tk;refine wpAny_Assign_stores (cL (he pins s σ H _ I h) ?_) hs hw;rintro v s1 ⟨x,H1,I1,r1,q1⟩;rw[h1];exact cL (hg pins s1 σ H1 x v _ I1 r1 q1) λ_ s2 q=>q
theorem aB4{i:Nat}(hN:X.N.Nodup)(hi:X.N[i]?=aj x)(hx:Loc X.env.scope x)(he:PE X e te)(hs:a0z e (aj (.Name x pos')) pos.line X.env=pure ao:=by rfl)(hf:X.fn x=ak∨X.env.scope.names.lookup x=aj .local:=by first|exact .inl rfl|exact .inr rfl|assumption) :
  PS X (.Assign [.Name x pos'] e pos) (aGZ te (aiD i)):=by
 intro pins s σ H D I h _tk;refine wpAny_Assign_Name (cL (he pins s σ H _ I h) ?_) hs;rintro v s1 ⟨y,H1,I1,r1,q1⟩;exact a5A I1 hN hi hx r1 (λs2 I2=>⟨_,H1,I2,q1⟩) hf
end
section
end
structure It where
 go:Nat->Hp->Prop
 yld:Nat->Hp->V->Hp->Prop
 stop:Nat->Hp->Prop
noncomputable def mJ(X:Cx)(pins:List (bx×Obj))(H:Hp)(b:bx):Prop :=
 H b=aq/\b≠X.env.locals/\b∉X.fs/\(b∈X.ex∨X.s₀.heap.objs.size<=b)/\(∀x c,X.env.cells.lookup x=aj c->c≠b)/\∀p∈X.pn++pins,p.1≠b
variable{s:cj}
theorem Inv.uH(I:Inv X pins σ H s)(hb:s.heap.objs.size<=b)(hn:H' b=aq):mJ X pins H' b:=by
 refine⟨hn,yj (iz I.lt hb),I.aMG hb,.inr (qz I.sz hb),λx c e z=>?_,λp hp z=>?_⟩
 .obtain⟨v,q⟩:=I.cell x c e;exact absurd (iz q.lt (by rw[z];exact hb)) (ud _)
 .exact absurd (iz (gk (I.pin p hp).1) (by rw[z];exact hb)) (ud _)
structure Turn(cm:Bool)(tl:List (bx×List V))(P:jt)(w:iy)(K:ig)(tg:jf)(J:It)(fp:List bx)(it:bx)(tn:Nat->jj->Prop):Prop where
 mem:it∈fp
 obj:∀i h,tn i h->∀b∈fp,∃o,h.get? b=aj o/\∀v,o.data≠.cell v
 keep:∀i h h',tn i h->(∀b∈fp,∀o,h.get? b=aj o->h'.get? b=aj o)->tn i h'
 item:∀(X:Cx),X.prog=P->X.w=w->X.K=K->(cm=ak->X.calm=ak)->(∀p∈tl,p∈X.tp)->∀(i:Nat)(pins:List (bx×Obj))(s:cj)(σ:St)(H:Hp)(E:bh->cj->Prop),Inv X pins σ H s->(∀b∈fp,mJ X pins H b)->tn i s.heap->J.go i H ->
  cu (fj P w) X.A (zc (.ref it)) (λr s1=>∃u,r=aj u /\
   cu (fj P w) X.A (a1p tg (.ref it) u) (λ_ s2=>∃x H',Inv X pins σ H' s2/\RelV x u/\J.yld i H x H'/\tn (i+1) s2.heap/\∀b∈fp,H' b=aq) E s1) E s
 done:∀(X:Cx),X.prog=P->X.w=w->X.K=K->(cm=ak->X.calm=ak)->(∀p∈tl,p∈X.tp)->∀(i:Nat)(pins:List (bx×Obj))(s:cj)(σ:St)(H:Hp)(E:bh->cj->Prop),Inv X pins σ H s->(∀b∈fp,mJ X pins H b)->tn i s.heap->J.stop i H ->
  cu (fj P w) X.A (zc (.ref it)) (λr s1=>r=aq/\Inv X pins σ H s1) E s
 self:∀(A:iw)(i:Nat)(s:cj)(Q:bh->cj->Prop)(E:bh->cj->Prop),tn i s.heap->Q (.ref it) s->cu (fj P w) A (pyIter (.ref it)) Q E s
abbrev TI:=St->Hp->(It->Hp->Prop)->Prop
noncomputable def PIE(X:Cx)(pins:List (bx×Obj))(σ:St)(tg:jf)(R:It->Hp->Prop)(itv:bh)(s2:cj):Prop :=
 ∃(it:bx)(fp:List bx)(tn:Nat->jj->Prop)(J:It)(H':Hp),itv=.ref it/\Inv X pins σ H' s2/\Turn X.calm X.tp X.prog X.w X.K tg J fp it tn/\tn 0 s2.heap/\(∀b∈fp,mJ X pins H' b)/\R J H'
noncomputable def PI(X:Cx)(tg iter:jf)(wi:TI):Prop :=
 ∀(pins:List (bx×Obj))(s:cj)(σ:St)(H:Hp)(R:It->Hp->Prop),Inv X pins σ H s->wi σ H R ->
  [Tk X.need s]->cu (fj X.prog X.w) X.A (eval iter X.env) (λv s1=>cu (fj X.prog X.w) X.A (pyIter v) (PIE X pins σ tg R) X.xe s1) X.xe s
theorem a9I{A:iw}{o:Obj}{n:String}(ho:s.heap.get? it=aj o)(hc:o.cls=.type n)(hd:o.data=.fields vs)
  (hn:["enumerate","zip","dict_itemiterator","dict_reverseitemiterator","odict_iterator","itertools.zip_longest","itertools.pairwise"].contains n=ao)(hQ:Q () s):cu M A (a1p tg (.ref it) u) Q E s:=by
 unfold a1p
 cases tg<;>first
  |exact dh hQ
  |(cases u<;>first
    |exact dh hQ
    |(refine au (wpAny_load ho ?_)
      rw[hc,hd];show cu M A (if(["enumerate","zip","dict_itemiterator","dict_reverseitemiterator","odict_iterator","itertools.zip_longest","itertools.pairwise"].contains n&&vs[0]?==aj (yg _))=ak then _ else _) Q E s;rw[if_neg (by intro h;rw[hn,Bool.false_and]at h;cases h)];exact dh hQ))
noncomputable def Itl(K:ig)(a:bx):It :=
 ⟨λi H=>∃xs x,pO K H a xs/\xs[i]?=aj x,λi H x H'=>H'=H/\∀xs,pO K H a xs->xs[i]?=aj x,λi H=>∃xs,pO K H a xs/\xs.length<=i⟩
noncomputable def Itt(K:ig)(a:bx):It :=
 ⟨λi H=>∃xs x,oH K H a xs/\xs[i]?=aj x,λi H x H'=>H'=H/\∀xs,oH K H a xs->xs[i]?=aj x,λi H=>∃xs,oH K H a xs/\xs.length<=i⟩
noncomputable def Itr(lo:Int)(n:Nat):It:=⟨λi _=>i<n,λi H x H'=>H'=H/\x=.int (lo+i),λi _=>n<=i⟩
theorem a9J{w:iy}{K:ig}(a it:bx):Turn cm tl P w K tg (Itl K a) [it] it (λi h=>h.IsListIter it a i) where
 mem:=by simp
 obj:=λi h st b hb=>by
  have e:b=it:=by simpa using hb
  subst e;obtain⟨o,e,c,d⟩:=st;exact⟨o,e,λv z=>by rw[d]at z;cases z⟩
 keep:=λi h h' st k=>st.at λo e=>k it (by simp) o e
 item:=by
  intro X hP hw hK hc ht i pins s σ H E I hf st hg;subst hP hw hK;obtain⟨xs,x,hq,hx⟩:=hg;obtain⟨its,rv,p,hz⟩:=I.list hq;obtain⟨u,hu,ru⟩:=rv.get hx;obtain⟨f0,f1,f2,f3,f4,f5⟩:=hf it (by simp);refine wpAny_pyNext_list_item st p.isList (x:=u) (by simpa using hu) λh' st' sb=>?_;have I1:Inv X pins σ H {s with heap:=h' }:=I.turned (t':=s.toks) (λb o hb e=>(sb.2 b hb).trans e) f0 f1 f3 f4 f5;obtain⟨o,e,c,d⟩:=id st';exact⟨u,rfl,a9I (s:={s with heap:=h' }) e c d (by decide) ⟨x,H,I1,ru,⟨rfl,λys hy=>by rw[I.z6 hy hq];exact hx⟩,st',λb hb=>(hf b hb).1⟩⟩
 done:=by
  intro X hP hw hK hc ht i pins s σ H E I hf st hg;subst hP hw hK;obtain⟨xs,hq,hx⟩:=hg;obtain⟨its,rv,p,hz⟩:=I.list hq;obtain⟨f0,f1,f2,f3,f4,f5⟩:=hf it (by simp);have hl:=rv.length;exact akH (I.hnd.heap I.hok) st p.isList (by simp;omega) λh' eb=>⟨rfl,I.turned (t':=s.toks) (λb o hb e=>eb b o hb e) f0 f1 f3 f4 f5⟩
 self:=λ_ _ _ _ _ st h=>wpAny_pyIter_listiter st h
theorem a5C{w:iy}{K:ig}(a it:bx):Turn cm tl P w K tg (Itt K a) [it] it (λi h=>h.IsTupleIter it a i) where
 mem:=by simp
 obj:=λi h st b hb=>by
  have e:b=it:=by simpa using hb
  subst e;obtain⟨o,e,c,d⟩:=st;exact⟨o,e,λv z=>by rw[d]at z;cases z⟩
 keep:=λi h h' st k=>st.at λo e=>k it (by simp) o e
 item:=by
  intro X hP hw hK hc ht i pins s σ H E I hf st hg;subst hP hw hK;obtain⟨xs,x,hq,hx⟩:=hg;obtain⟨its,rv,p,hz⟩:=I.tuple hq;obtain⟨u,hu,ru⟩:=rv.get hx;obtain⟨f0,f1,f2,f3,f4,f5⟩:=hf it (by simp);refine wpAny_pyNext_tuple_item st (show s.heap.IsTuple a its.toArray from p) (x:=u) (by simpa using hu) λh' st' sb=>?_;have I1:Inv X pins σ H {s with heap:=h' }:=I.turned (t':=s.toks) (λb o hb e=>(sb.2 b hb).trans e) f0 f1 f3 f4 f5;obtain⟨o,e,c,d⟩:=id st';exact⟨u,rfl,a9I (s:={s with heap:=h' }) e c d (by decide) ⟨x,H,I1,ru,⟨rfl,λys hy=>by rw[I.wG hy hq];exact hx⟩,st',λb hb=>(hf b hb).1⟩⟩
 done:=by
  intro X hP hw hK hc ht i pins s σ H E I hf st hg;subst hP hw hK;obtain⟨xs,hq,hx⟩:=hg;obtain⟨its,rv,p,hz⟩:=I.tuple hq;obtain⟨f0,f1,f2,f3,f4,f5⟩:=hf it (by simp);have hl:=rv.length;exact an4 (I.hnd.heap I.hok) st (show s.heap.IsTuple a its.toArray from p) (by simp;omega) λh' eb=>⟨rfl,I.turned (t':=s.toks) (λb o hb e=>eb b o hb e) f0 f1 f3 f4 f5⟩
 self:=λ_ _ _ _ _ st h=>wpAny_pyIter_tupleiter st h
theorem agF{w:iy}{K:ig}(it:bx)(lo:Int)(n:Nat):Turn cm tl P w K tg (Itr lo n) [it] it (λi h=>a1j h it (lo+(i:Nat)*1) ((n:Int) - (i:Nat)) 1) where
 mem:=by simp
 obj:=λi h st b hb=>by
  have e:b=it:=by simpa using hb
  subst e
  exact⟨_,st,λv z=>by
   have z':Data.fields _=Data.cell v:=z;cases z'⟩
 keep:=λi h h' st k=>k it (by simp) _ st
 item:=by
  intro X hP hw hK hc ht i pins s σ H E I hf st hg;subst hP hw hK;obtain⟨f0,f1,f2,f3,f4,f5⟩:=hf it (by simp);have hi:i<n:=hg;refine wpAny_pyNext_range_item st (by omega) λh' st' kk=>?_;have I1:Inv X pins σ H {s with heap:=h',toks:=s.toks+1}:=I.turned (λb o hb e=>(kk.2 b hb).trans e) f0 f1 f3 f4 f5
  have st2:a1j h' it (lo+((i+1:Nat):Int)*1) ((n:Int) - ((i+1:Nat):Int)) 1:=by
   have e1:lo+((i:Nat):Int)*1+1=lo+((i+1:Nat):Int)*1:=by omega
   have e2:(n:Int) - ((i:Nat):Int) - 1=(n:Int) - ((i+1:Nat):Int):=by omega
   rw[←e1,←e2];exact st'
  refine⟨_,rfl,a9I (s:={s with heap:=h',toks:=s.toks+1}) (n:="range_iterator") st2 rfl rfl (by decide) ⟨.int (lo+i),H,I1,⟨s.toks,?_⟩,⟨rfl,rfl⟩,st2,λb hb=>(hf b hb).1⟩⟩;rw[Int.mul_one]
 done:=by
  intro X hP hw hK hc ht i pins s σ H E I hf st hg;subst hP hw hK;obtain⟨f0,f1,f2,f3,f4,f5⟩:=hf it (by simp);exact ad1 (I.hnd.heap I.hok) st (by have:n<=i:=hg;omega) λh' eb=>⟨rfl,I.turned (t':=s.toks) (λb o hb e=>eb b o hb e) f0 f1 f3 f4 f5⟩
 self:=λ_ _ _ _ _ st h=>wpAny_pyIter_rangeiter st h
end
variable{body:List kj}
section
variable{h:jj}
section
variable{X:Cx}
theorem anC{s:cj}{lo hi:Int}{t:Tok}{tk:Nat}(I:Inv X pins σ H s)(h1:-(2^62)<=lo)(h2:lo<2^62)(h3:-(2^62)<=hi)(h4:hi<2^62)
  (q:R (Itr lo (hi - lo).toNat) H):cu (fj X.prog X.w) X.A (pyIter (.ref s.heap.objs.size)) (PIE X pins σ tg R) E {s with heap:=s.heap.push {cls:=.type "range",data:=.fields #[.int lo t,.int hi u,.int 1 v]},toks:=tk}:=by
 refine wpAny_pyIter_range (IsRange.new ..) (small_one h1 h2 h3 h4) ?_;have I1:Inv X pins σ H {s with heap:=s.heap.push {cls:=.type "range",data:=.fields #[.int lo t,.int hi u,.int 1 v]},toks:=tk}:=I.kept λb o e=>cg _ e
 refine⟨(s.heap.push {cls:=.type "range",data:=.fields #[.int lo t,.int hi u,.int 1 v]}).objs.size,[(s.heap.push {cls:=.type "range",data:=.fields #[.int lo t,.int hi u,.int 1 v]}).objs.size],_,_,H,rfl,
  I1.kept (t':=tk) λb o e=>cg _ e,agF _ lo (hi - lo).toNat,?_,λb hb=>?_,q⟩
 .have e1:lo+((0:Nat):Int)*1=lo:=by simp
  have e2:(((hi - lo).toNat:Nat):Int) - ((0:Nat):Int)=Builtin.Range.rangeSize lo hi 1:=by rw[rangeSize_one];split<;>omega
  show a1j _ _ (lo+((0:Nat):Int)*1) ((((hi - lo).toNat:Nat):Int) - ((0:Nat):Int)) 1;rw[e1,e2];exact gV _ rfl
 .have e:b=(s.heap.push {cls:=.type "range",data:=.fields #[.int lo t,.int hi u,.int 1 v]}).objs.size:=by simpa using hb
  subst e;exact I1.uH (dw _) (I1.hok.fresh (dw _))
noncomputable def aH1(ta:TA):TI:=λσ H R=>ta σ H λvs H1=>∃j:Int,vs=[.int j]/\-(2^62)<=j/\j<2^62/\R (Itr 0 j.toNat) H1
theorem a9K{p:Pos}(hg:Gl X "range")(hm:X.mg "range"=aq)(ha:PA X [a] ta)(hs:je [a] X.env=[(ao,eval a X.env)]:=by rfl):PI X tg (.Call (.Name "range" p) [a] [] pos) (aH1 ta):=by
 intro pins s σ H R I h _tk;refine Call_ (rJ I hg hm boot_range (PyProof.Rows.callWith_type1 (cL (ha pos pins s σ H _ I h) ?_) hs rfl));rintro us s1 ⟨vs,H1,I1,r1,q1⟩;obtain⟨j,e,q1,q2,q⟩:=q1;subst e;cases r1 with
 |cons r rr =>
  cases rr;obtain⟨t,rfl⟩:=r;exact call_range_1 (anC I1 (by omega) (by omega) q1 q2 (by simpa using q))
noncomputable def aMS(wi:TI)(g:TG)(tb:TS):TS:=λD σ H=>wi σ H λJ H1=>∃W:Nat->Nat->St->Hp->Prop,(∃m,W 0 m σ H1)/\∀i m σ H,W i m σ H ->
 (J.stop i H/\D.nx σ H)∨(J.go i H/\∃N:St->Hp->Prop,(∀σ' H',N σ' H'->∃m',m'<m/\W (i+1) m' σ' H')/\∀x H',J.yld i H x H'->g x σ H' λσ2 H2=>tb {D with nx:=N,ct:=N,bk:=D.nx} σ2 H2)
noncomputable def a1C(fp:List bx)(h:jj):List (bx×Obj):=fp.filterMap λb=>(h.get? b).map λo=>(b,o)
theorem rK(hb:b∈fp)(e:h.get? b=aj o):(b,o)∈a1C fp h:=a1u.mpr ⟨b,hb,by rw[e];rfl⟩
theorem akN{p:bx×Obj}(hp:p∈a1C fp h):p.1∈fp/\h.get? p.1=aj p.2:=by
 obtain⟨b,hb,e⟩:=a1u.mp hp;cases q:h.get? b with
 |none=>rw[q]at e;cases e
 |some o =>
  rw[q]at e;have e':(b,o)=p:=jk.inj e;subst e';exact⟨hb,q⟩
theorem Inv.pinned{s:cj}(I:Inv X pins σ H s)(hf:∀b∈fp,mJ X pins H b)(ho:∀b∈fp,∃o,s.heap.get? b=aj o/\∀v,o.data≠.cell v):Inv X (pins++a1C fp s.heap) σ H s :=
 I.aiC λp hp=>(xu.mp hp).elim (λz=>I.pin p (qy _ z)) λz=>by
  obtain⟨hb,e⟩:=akN z;obtain⟨f0,f1,f2,_⟩:=hf p.1 hb;obtain⟨o,e',d⟩:=ho p.1 hb;rw[e]at e';cases e';exact⟨e,f0,f1,f2,d⟩
theorem Inv.z7{pl:List (bx×Obj)}(I:Inv X (pins++pl) σ H s):Inv X pins σ H s:=I.aiC λp hp=>I.pin p (qy _ (a1f _ hp))
set_option tactic.hygienic true in
theorem anD{g:TG}(hp:PassesOwn (fj X.prog X.w) X.A X.env X.xe)(hi:PI X tg iter wi)(hg:PG X tg g)(hb:PSs X body tb)
  (hs:∀x,a0l iter X.env x=pure x:=by intro _;rfl):PS X (.For tg iter body [] pos) (aMS wi g tb):=by
 intro pins s σ H D I h _tk;refine wpAny_For (cL (hi pins s σ H _ I h) λv s1 h1=>cL h1 λitv s2 h2=>?_) hs;intro aQS;obtain⟨it,fp,tn,J,H2,e,I2,T,st2,f2,W,⟨m0,w0⟩,turn⟩:=h2;subst e;have stat:∀{H':Hp},(∀b∈fp,H' b=aq)->∀b∈fp,mJ X pins H' b:=λhn b hb=>⟨hn b hb,(f2 b hb).2⟩;refine codeAny_forLoop_any (λn s'=>Tk X.need s'/\∃i σ' H',Inv X pins σ' H' s'/\tn i s'.heap/\(∀b∈fp,H' b=aq)/\W i n σ' H') ?_ m0 ⟨inferInstance,0,σ,H2,I2,st2,λb hb=>(f2 b hb).1,w0⟩;rintro n s3 ⟨tk3,i,σ3,H3,I3,st3,fr3,w3⟩;rcases turn i n σ3 H3 w3 with⟨stop,qn⟩|⟨go,N,hN,step⟩
 .refine a1q hp (cL (T.done X rfl rfl rfl (λh=>h) (λ_ h=>h) i pins s3 σ3 H3 X.xe I3 (stat fr3) st3 stop) ?_);rintro r s4 ⟨hr,I4⟩;subst hr;exact wpAny_execs_nil ⟨σ3,H3,I4,qn⟩
 .refine a1q hp (cL (T.item X rfl rfl rfl (λh=>h) (λ_ h=>h) i pins s3 σ3 H3 X.xe I3 (stat fr3) st3 go) ?_);rintro r s4 ⟨u,hr,h4⟩;subst hr;refine a1q hp (cL h4 λ_ s5 ⟨x,H5,I5,r5,y5,st5,fr5⟩=>?_);have I5':=I5.pinned (stat fr5) (T.obj _ _ st5);refine a1q hp (cL (hg _ s5 σ3 H5 x u _ I5' r5 (step x H5 y5)) λ_ s6 ⟨σ6,H6,I6,q6⟩=>?_);refine a1q hp (cL (hb _ s6 σ6 H6 _ I6 q6) λf s7 q7=>?_);intro aQV
  have again:∀{σ7:St}{H7:Hp},Inv X (pins++a1C fp s5.heap) σ7 H7 s7->N σ7 H7->∃m,m<n/\Tk X.need s7/\∃i σ' H',Inv X pins σ' H' s7/\tn i s7.heap/\(∀b∈fp,H' b=aq)/\W i m σ' H':=λ{σ7 H7} I7 n7=>by
   obtain⟨m',hm,w7⟩:=hN σ7 H7 n7;refine⟨m',hm,inferInstance,i+1,σ7,H7,I7.z7,T.keep _ _ _ st5 λb hb o e=>(I7.pin (b,o) (qy _ (qy _ (rK hb e)))).1,λb hb=>?_,w7⟩;obtain⟨o,e,d⟩:=T.obj _ _ st5 b hb;exact(I7.pin (b,o) (qy _ (qy _ (rK hb e)))).2.1
  cases f with
  |next=>obtain⟨σ7,H7,I7,n7⟩:=q7;exact again I7 n7
  |cont=>obtain⟨σ7,H7,I7,n7⟩:=q7;exact again I7 n7
  |brk=>obtain⟨σ7,H7,I7,q7⟩:=q7;exact⟨σ7,H7,I7.z7,q7⟩
  |ret v=>obtain⟨x7,σ7,H7,I7,r7,q7⟩:=q7;exact⟨x7,σ7,H7,I7.z7,r7,q7⟩
end
end
section
abbrev R2:=V->V->Hp->VK->Prop
noncomputable def pJ(X:Cx)(f:bh->bh->Sem bh)(r:R2):Prop :=
 ∀(pins:List (bx×Obj))(s:cj)(σ:St)(H:Hp)(x y:V)(v u:bh)(Q:VK),Inv X pins σ H s->RelV x v->RelV y u->r x y H Q ->
  cu (fj X.prog X.w) X.A (f v u) (EP X pins σ Q) X.xe s
noncomputable def UnR(X:Cx)(f:bh->Sem bh)(r:V->Hp->VK->Prop):Prop :=
 ∀(pins:List (bx×Obj))(s:cj)(σ:St)(H:Hp)(x:V)(v:bh)(Q:VK),Inv X pins σ H s->RelV x v->r x H Q ->
  cu (fj X.prog X.w) X.A (f v) (EP X pins σ Q) X.xe s
noncomputable def oJ(X:Cx)(f:bh)(r:List V->Hp->VK->Prop):Prop :=
 ∀(pins:List (bx×Obj))(s:cj)(σ:St)(H:Hp)(xs:List V)(us:List bh)(Q:VK),Inv X pins σ H s->Vals xs us->r xs H Q ->
  cu (fj X.prog X.w) X.A (call f us) (EP X pins σ Q) X.xe s
noncomputable def tOp(r:R2)(ta tb:TE):TE:=λσ H Q=>ta σ H λx H1=>tb σ H1 λy H2=>r x y H2 Q
noncomputable def tUn(r:V->Hp->VK->Prop)(ta:TE):TE:=λσ H Q=>ta σ H λx H1=>r x H1 Q
noncomputable def rI(C:Int->Int->Prop)(g:Int->Int->V):R2:=λx y H Q=>∃i j,x=.int i/\y=.int j/\C i j/\Q (g i j) H
noncomputable def rI0(g:Int->Int->V):R2:=λx y H Q=>∃i j,x=.int i/\y=.int j/\Q (g i j) H
noncomputable def rU(g:Int->V):V->Hp->VK->Prop:=λx H Q=>∃i,x=.int i/\Q (g i) H
section
variable{X:Cx}{a b:jf}{ta tb:TE}{pos:Pos}
theorem aB5(ha:PE X a ta)(hb:PE X b tb){s:cj}{σ:St}{H:Hp}{R:V->V->Hp->Prop}[Tk X.need s](I:Inv X pins σ H s)
  (h:ta σ H λx H1=>tb σ H1 λy H2=>R x y H2){Q:bh->cj->Prop}{f:bh->bh->Sem bh}
  (hf:∀v u s2 x y H2,Inv X pins σ H2 s2->RelV x v->RelV y u->R x y H2->cu (fj X.prog X.w) X.A (f v u) Q X.xe s2) :
  cu (fj X.prog X.w) X.A (eval a X.env) (λv s₁=>cu (fj X.prog X.w) X.A (eval b X.env) (λu s₂=>cu (fj X.prog X.w) X.A (f v u) Q X.xe s₂) X.xe s₁) X.xe s:=by
 refine cL (ha pins s σ H _ I h) ?_;rintro v s1 ⟨x,H1,I1,r1,q1⟩;refine cL (hb pins s1 σ H1 _ I1 q1) ?_;rintro u s2 ⟨y,H2,I2,r2,q2⟩;exact hf v u s2 x y H2 I2 r1 r2 q2
theorem aH2(ho:pJ X (wg op) r)(ha:PE X a ta)(hb:PE X b tb):PE X (.BinOp a op b pos) (tOp r ta tb):=by
 intro pins s σ H Q I h _tk;exact wpAny_BinOp (aB5 ha hb I h λv u s2 x y H2 I2 rx ry q=>ho pins s2 σ H2 x y v u Q I2 rx ry q)
theorem aH3(ho:UnR X (unaryOp op) r)(ha:PE X a ta):PE X (.UnaryOp op a pos) (tUn r ta):=by
 intro pins s σ H Q I h _tk;exact UnaryOp_ (cL (ha pins s σ H _ I h) (by rintro v s1 ⟨x,H1,I1,r1,q1⟩;exact ho pins s1 σ H1 x v Q I1 r1 q1))
theorem opI{g:Int->Int->Int}
  (rule:∀(i j:Int)(t u:Tok)(s:cj)(Q:bh->cj->Prop)(E:bh->cj->Prop),C i j->Q (.int (g i j) s.toks) {s with toks:=s.toks+1}->cu (fj X.prog X.w) X.A (f (.int i t) (.int j u)) Q E s) :
  pJ X f (rI C λi j=>.int (g i j)):=by
 intro pins s σ H x y v u Q I rx ry h;obtain⟨i,j,rfl,rfl,hc,q⟩:=h;obtain⟨t,rfl⟩:=rx;obtain⟨t',rfl⟩:=ry;exact rule i j t t' s _ _ hc ⟨.int (g i j),H,I.tok _,⟨_,rfl⟩,q⟩
theorem aH4{g:Int->Int->Int}
  (rule:∀(i j:Int)(t u:Tok)(s:cj)(Q:bh->cj->Prop)(E:bh->cj->Prop),Q (.int (g i j) s.toks) {s with toks:=s.toks+1}->cu (fj X.prog X.w) X.A (f (.int i t) (.int j u)) Q E s) :
  pJ X f (rI0 λi j=>.int (g i j)):=by
 intro pins s σ H x y v u Q I rx ry h;obtain⟨i,j,rfl,rfl,q⟩:=h;obtain⟨t,rfl⟩:=rx;obtain⟨t',rfl⟩:=ry;exact rule i j t t' s _ _ ⟨.int (g i j),H,I.tok _,⟨_,rfl⟩,q⟩
theorem auA{g:Int->Int->Bool}
  (rule:∀(i j:Int)(t u:Tok)(s:cj)(Q:bh->cj->Prop)(E:bh->cj->Prop),Q (.bool (g i j)) s->cu (fj X.prog X.w) X.A (f (.int i t) (.int j u)) Q E s) :
  pJ X f (rI0 λi j=>.bl (g i j)):=by
 intro pins s σ H x y v u Q I rx ry h;obtain⟨i,j,rfl,rfl,q⟩:=h;obtain⟨t,rfl⟩:=rx;obtain⟨t',rfl⟩:=ry;exact rule i j t t' s _ _ ⟨.bl (g i j),H,I,rfl,q⟩
def aB6(i j:Int):Prop:=0<j/\j<1073741824
def aH5(i j:Int):Prop:=0<=j/\j<=1000000/\i.natAbs<2^64
def anE(i j:Int):Prop:=(-(2^64)<i/\i<2^64)∨(-(2^64)<j/\j<2^64)
theorem anE.ok{i j:Int}(h:anE i j):IntMulOk i j:=by
 rcases h with⟨h1,h2⟩|⟨h1,h2⟩
 .exact .of_left (intBits_le_64 h1 h2)
 .exact .of_right (intBits_le_64 h1 h2)
theorem aB7:pJ X (wg .Add) (rI0 λi j=>.int (i+j)):=aH4 λ_ _ _ _ _ _ _ q=>add_int q
theorem aB8:pJ X (wg .Sub) (rI0 λi j=>.int (i - j)):=aH4 λ_ _ _ _ _ _ _ q=>sub_int q
theorem aB9:pJ X (wg .Mult) (rI anE λi j=>.int (i*j)):=opI λ_ _ _ _ _ _ _ hc q=>mul_int q hc.ok
theorem auB:pJ X (wg .FloorDiv) (rI aB6 λi j=>.int (i / j)):=opI λi j _ _ _ _ _ hc q=>by
 have h1:(0:Int)<j:=hc.1;have h2:j<1073741824:=hc.2;exact floordiv_int (by omega) (by rw[Int.fdiv_eq_ediv_of_nonneg i (by omega)];exact q) (.inl (PyProof.noPylong_small (by omega)))
theorem aBA:pJ X (wg .Mod) (rI (λ_ j=>0<j) λi j=>.int (i%j)):=opI λi j _ _ _ _ _ hc q=>by
 have h1:(0:Int)<j:=hc;exact mod_int' (by omega) (by rw[Int.fmod_eq_emod_of_nonneg i (by omega)];exact q)
theorem aBB:pJ X (wg .Pow) (rI aH5 λi j=>.int (i^j.toNat)):=opI λ_ _ _ _ _ _ _ hc q=>pow_int_small hc.1 hc.2.1 hc.2.2 q
theorem unI{g:Int->Int}
  (rule:∀(i:Int)(t:Tok)(s:cj)(Q:bh->cj->Prop)(E:bh->cj->Prop),Q (.int (g i) s.toks) {s with toks:=s.toks+1}->cu (fj X.prog X.w) X.A (f (.int i t)) Q E s) :
  UnR X f (rU λi=>.int (g i)):=by
 intro pins s σ H x v Q I rx h;obtain⟨i,rfl,q⟩:=h;obtain⟨t,rfl⟩:=rx;exact rule i t s _ _ ⟨.int (g i),H,I.tok _,⟨_,rfl⟩,q⟩
theorem aBC:UnR X (unaryOp .USub) (rU λi=>.int (-i)):=unI λ_ _ _ _ _ q=>neg_int q
end
variable{x:V}
section
variable{X:Cx}{b:jf}{ta tb tc:TE}{pos:Pos}
theorem ab1{Q:VK}{k k':Bool}(I:Inv X pins σ H s)(q:Q (.bl k) H)(e:k=k'):EP X pins σ Q (.bool k') s:=by
 subst e;exact⟨.bl k,H,I,rfl,q⟩
theorem aH6:pJ X (jg .Lt) (rI0 λi j=>.bl (decide (i<j))):=auA λ_ _ _ _ _ _ _ q=>lt_int q
theorem aH7:pJ X (jg .LtE) (rI0 λi j=>.bl (decide (i<=j))):=auA λ_ _ _ _ _ _ _ q=>le_int q
theorem aH8:pJ X (jg .Gt) (rI0 λi j=>.bl (decide (j<i))):=auA λ_ _ _ _ _ _ _ q=>gt_int q
theorem aH9:pJ X (jg .GtE) (rI0 λi j=>.bl (decide (j<=i))):=auA λ_ _ _ _ _ _ _ q=>ge_int q
theorem akO:pJ X (jg .In) (λx y H Q=>∃i j,x=.str i/\y=.str j/\Q (.bl (!(Builtin.Str.occurrences j i 0 j.length 1).isEmpty)) H):=by
 intro pins s σ H x y v u Q I rx ry h;obtain⟨i,j,rfl,rfl,q⟩:=h;obtain⟨t,rfl⟩:=rx;obtain⟨t',rfl⟩:=ry;exact in_str (ab1 I q rfl)
theorem aBD:pJ X (jg .Is) (λx y H Q=>y=.non/\Q (.bl (decide (x=.non))) H):=by
 intro pins s σ H x y v u Q I rx ry h;obtain⟨rfl,q⟩:=h;cases ry;refine is_none_gen (ab1 I q ?_)
 cases x<;>first
  |(cases rx;rfl)
  |(obtain⟨t,rfl⟩:=rx;rfl)
theorem auC:pJ X (jg .IsNot) (λx y H Q=>y=.non/\Q (.bl (!decide (x=.non))) H):=by
 intro pins s σ H x y v u Q I rx ry h;obtain⟨rfl,q⟩:=h;cases ry;refine isnot_none_gen (ab1 I q ?_)
 cases x<;>first
  |(cases rx;rfl)
  |(obtain⟨t,rfl⟩:=rx;rfl)
theorem ab2:pJ X (jg .NotIn) (λx y H Q=>∃i j,x=.str i/\y=.str j/\Q (.bl (!(!(Builtin.Str.occurrences j i 0 j.length 1).isEmpty))) H):=by
 intro pins s σ H x y v u Q I rx ry h;obtain⟨i,j,rfl,rfl,q⟩:=h;obtain⟨t,rfl⟩:=rx;obtain⟨t',rfl⟩:=ry;exact notIn_str (ab1 I q rfl)
theorem pJ.or(h:pJ X f r)(h':pJ X f r'):pJ X f (λx y H Q=>r x y H Q∨r' x y H Q):=by
 intro pins s σ H x y v u Q I rx ry q;rcases q with q|q
 .exact h pins s σ H x y v u Q I rx ry q
 .exact h' pins s σ H x y v u Q I rx ry q
theorem aMV(b:jf)(h:op≠.In:=by decide)(h2:op≠.NotIn:=by decide):yq op b=ao:=by
 have e1:(op==yc.In)=ao:=by cases op<;>first|rfl|exact absurd rfl h
 have e2:(op==yc.NotIn)=ao:=by cases op<;>first|rfl|exact absurd rfl h2
 cases b<;>simp[yq,e1,e2]
theorem auD(ho:pJ X (jg op) r)(ha:PE X a ta)(hb:PE X b tb)(hm:yq op b=ao):PE X (.Compare a [op] [b] pos) (tOp r ta tb):=by
 intro pins s σ H Q I h _tk;exact wpAny_Compare1 (aB5 ha hb I h λv u s2 x y H2 I2 rx ry q=>ho pins s2 σ H2 x y v u Q I2 rx ry q) hm
noncomputable def anF(t:TE):TT:=λσ H Q=>t σ H λx H'=>∃k,x=.bl k/\Q k H'
theorem auE(ho:pJ X (jg op) r)(ha:PE X a ta)(hb:PE X b tb)(hm:yq op b=ao):PT X (.Compare a [op] [b] pos) (anF (tOp r ta tb)):=by
 intro pins s σ H Q I h _tk
 refine wpAny_isTrue_Compare1 (cL (ha pins s σ H _ I h) λv s1 ⟨x,H1,I1,r1,q1⟩=>cL (hb pins s1 σ H1 _ I1 q1) λu s2 ⟨y,H2,I2,r2,q2⟩ =>
  cL (ho pins s2 σ H2 x y v u _ I2 r1 r2 q2) λc s3 ⟨z,H3,I3,r3,k,e,q3⟩=>?_) hm
 subst e;cases r3;exact um ⟨H3,I3,q3⟩
noncomputable def agG(r r':R2)(ta tb tc:TE):TE:=λσ H Q=>ta σ H λx H1=>tb σ H1 λy H2=>r x y H2 λz H3=>∃k,z=.bl k /\
 (if k=ak then tc σ H3 λw' H4=>r' y w' H4 Q else Q (.bl ao) H3)
theorem anG(ho:pJ X (jg op) r)(ho':pJ X (jg op') r')(ha:PE X a ta)(hb:PE X b tb)(hc:PE X c tc)
  (hm:lastMarks [op,op'] [b,c]=ao:=by with_unfolding_all rfl):PE X (.Compare a [op,op'] [b,c] pos) (agG r r' ta tb tc):=by
 intro pins s σ H Q I h _tk
 refine Compare_chain (cL (ha pins s σ H _ I h) λv s1 ⟨x,H1,I1,r1,q1⟩=>chain_link (cL (hb pins s1 σ H1 _ I1 q1) λu s2 ⟨y,H2,I2,r2,q2⟩ =>
  cL (ho pins s2 σ H2 x y v u _ I2 r1 r2 q2) λd s3 ⟨z,H3,I3,r3,k,e,q3⟩=>?_)) hm
 subst e;cases r3;refine um ?_;cases k with
 |false=>exact ite_ff ⟨.bl ao,H3,I3,rfl,q3⟩
 |true=>exact ite_tt (chain_last (cL (hc pins s3 σ H3 _ I3 q3) λw' s4 ⟨z',H4,I4,r4,q4⟩=>ho' pins s4 σ H4 y z' u w' Q I4 r2 r4 q4))
theorem anH(ho:pJ X (jg op) r)(ho':pJ X (jg op') r')(ha:PE X a ta)(hb:PE X b tb)(hc:PE X c tc)
  (hm:lastMarks [op,op'] [b,c]=ao:=by with_unfolding_all rfl):PT X (.Compare a [op,op'] [b,c] pos) (anF (agG r r' ta tb tc)):=by
 intro pins s σ H Q I h _tk
 refine isTrue_chain (cL (ha pins s σ H _ I h) λv s1 ⟨x,H1,I1,r1,q1⟩=>test_link (cL (hb pins s1 σ H1 _ I1 q1) λu s2 ⟨y,H2,I2,r2,q2⟩ =>
  cL (ho pins s2 σ H2 x y v u _ I2 r1 r2 q2) λd s3 ⟨z,H3,I3,r3,k,e,q3⟩=>?_)) hm
 subst e;cases r3;refine um ?_;cases k with
 |false =>
  obtain⟨k',e',q'⟩:=q3;cases e';exact ite_ff ⟨H3,I3,q'⟩
 |true =>
  refine ite_tt (test_last (cL (hc pins s3 σ H3 _ I3 q3) λw' s4 ⟨z',H4,I4,r4,q4⟩=>cL (ho' pins s4 σ H4 y z' u w' _ I4 r2 r4 q4) ?_));rintro d' s5 ⟨z2,H5,I5,r5,k2,e2,q5⟩;subst e2;cases r5;exact um ⟨H5,I5,q5⟩
theorem a1D:(dg:Nat)<2^63:=by rw[sizeLine_eq];decide
theorem agH:pJ X (wg .Add) (λx y H Q=>∃i j,x=.str i/\y=.str j/\i.length+j.length<=dg/\Q (.str (i++j)) H):=by
 intro pins s σ H x y v u Q I rx ry h;obtain⟨i,j,rfl,rfl,hz,q⟩:=h;obtain⟨t,rfl⟩:=rx;obtain⟨t',rfl⟩:=ry;exact add_str (λt' tk=>⟨.str (i++j),H,I.tok _,⟨_,rfl⟩,q⟩) hz
theorem vals1(r:Vals [x] us):∃u,us=[u]/\RelV x u:=by
 cases r with
 |cons r1 r2=>cases r2;exact⟨_,rfl,r1⟩
theorem vals2(r:Vals [x,y] us):∃u w',us=[u,w']/\RelV x u/\RelV y w':=by
 cases r with
 |cons r1 r2 =>
  cases r2 with
  |cons r3 r4=>cases r4;exact⟨_,_,rfl,r1,r3⟩
theorem anI:oJ X (.builtin "abs") (λxs H Q=>∃i,xs=[.int i]/\Q (.int (if i<0 then -i else i)) H):=by
 intro pins s σ H xs us Q I r h;obtain⟨i,rfl,q⟩:=h;obtain⟨u,rfl,t,rfl⟩:=vals1 r;exact call_abs_int λu tk=>⟨.int (if i<0 then -i else i),H,I.tok _,⟨_,rfl⟩,q⟩
theorem akP(hc:X.calm=ak):oJ X (.builtin "max") (λxs H Q=>∃i j,xs=[.int i,.int j]/\Q (.int (if j>i then j else i)) H):=by
 intro pins s σ H xs us Q I r h;obtain⟨i,j,rfl,q⟩:=h;obtain⟨u,w',rfl,⟨t,rfl⟩,⟨t',rfl⟩⟩:=vals2 r;refine max_two_ints (I.ok.hd hc) λh' tk k=>⟨_,H,I.kept k,?_,q⟩;by_cases hj:j>i
 .rw[if_pos hj,if_pos hj];exact⟨_,rfl⟩
 .rw[if_neg hj,if_neg hj];exact⟨_,rfl⟩
theorem akQ(hc:X.calm=ak):oJ X (.builtin "min") (λxs H Q=>∃i j,xs=[.int i,.int j]/\Q (.int (if j<i then j else i)) H):=by
 intro pins s σ H xs us Q I r h;obtain⟨i,j,rfl,q⟩:=h;obtain⟨u,w',rfl,⟨t,rfl⟩,⟨t',rfl⟩⟩:=vals2 r;refine min_two_ints (I.ok.hd hc) λh' tk k=>⟨_,H,I.kept k,?_,q⟩;by_cases hj:j<i
 .rw[if_pos hj,if_pos hj];exact⟨_,rfl⟩
 .rw[if_neg hj,if_neg hj];exact⟨_,rfl⟩
theorem akR:oJ X (.type "int") (λxs H Q=>(∃i,xs=[.int i]/\Q (.int i) H)∨∃k,xs=[.bl k]/\Q (.int (if k then 1 else 0)) H):=by
 intro pins s σ H xs us Q I r h;rcases h with⟨i,rfl,q⟩|⟨k,rfl,q⟩
 .obtain⟨u,rfl,t,rfl⟩:=vals1 r;exact call_int_int ⟨.int i,H,I,⟨_,rfl⟩,q⟩
 .obtain⟨u,rfl,r1⟩:=vals1 r;cases r1;exact call_int_bool ⟨.int (if k then 1 else 0),H,I.tok _,⟨_,rfl⟩,q⟩
end
end
section
section
variable{prog:jt}{w:iy}{A:iw}{s:cj}{K:ig}
theorem anJ(X:K.In s.heap)(hm:PySem.W.makesIn K C=ak)
  (hi:qg K (.ref C) "__init__"=aj (aj (.ref f)))(hf:a0p K (.ref f)=aj (.type "function"))
  (h:yu (fj prog w) (A.under (.builtin "type.__call__" ⟨.ref C::vs,kw⟩)) (.call (.ref f) ⟨.ref (s.heap.objs.size+1)::vs,kw⟩) (PySem.W.InitBack (s.heap.objs.size+1) R)
   {s with heap:=(s.heap.push xq).push (a0y C s.heap.objs.size)}) :
  yu (fj prog w) A (.call (.ref C) ⟨vs,kw⟩) R s:=by
 obtain⟨hh,g,d,t,os⟩:=s;exact PySem.W.make_core (PySem.W.makes_of X hm) (PySem.W.looks_findIn X hi) (λself=>PySem.W.bind_fn X self hf) (.inl rfl) h
end
theorem a3J.some_of(r:a3J (aj v) o):∃u,o=aj u/\RelV v u:=by
 cases o with
 |none=>exact(show False from r).elim
 |some u=>exact⟨u,rfl,r⟩
section
end
structure Cls(K:ig)(C:bx):Prop where
 pg:PySem.W.plainGet K C Str.empty=ak
 hd:PySem.W.hasDictIn K C=ak
 po:PySem.W.plainOver K C=ak
 sa:qg K (.ref C) "__setattr__"=aj (aj (.builtin "object.__setattr__"))
theorem Cls.get{K:ig}(c:Cls K C)(f:Str):PySem.W.plainGet K C f=ak:=c.pg
def anK(K:ig)(C:bx)(f:Str):Prop:=qg K (.ref C) f=aj aq
structure Meth(K:ig)(C:bx)(m:Str)(f:bx):Prop where
 at_:qg K (.ref C) m=aj (aj (.ref f))
 fn:PySem.W.isFn K (.ref f)=ak
 kp:tu K (.ref f)=ak
section
variable{pins:List (bx×Obj)}{s:cj}
theorem Inv.made(I:Inv X pins σ H s):Inv X pins σ (upd (upd H s.heap.objs.size (.own (s.heap.objs.size+1))) (s.heap.objs.size+1) (.ins C s.heap.objs.size []))
  {s with heap:=(s.heap.push xq).push (a0y C s.heap.objs.size)}:=by
 have e1:(s.heap.push xq).get? s.heap.objs.size=aj xq:=gV s.heap rfl
 have e2:((s.heap.push xq).push (a0y C s.heap.objs.size)).get? (s.heap.objs.size+1)=aj (a0y C s.heap.objs.size):=by
  have:=gV (s.heap.push xq) (o:=a0y C s.heap.objs.size) rfl
  rwa [wu]at this
 have e3:(s.heap.push xq).Ns s.heap.objs.size (λ_=>aq):=⟨xq,#[],_,e1,rfl,(λe he=>absurd he (by simp)),λ_=>rfl⟩;have I1:=I.laid (a:=s.heap.objs.size) (o:=.own (s.heap.objs.size+1)) (h':=s.heap.push xq) (t':=s.toks) (λb u q=>cg _ q) (dw _) ⟨_,e1⟩;refine I1.laid (a:=s.heap.objs.size+1) (o:=.ins C s.heap.objs.size []) (t':=s.toks) (λb u q=>cg _ q) (a1v (wu _ _)) ?_;have ne:s.heap.objs.size≠s.heap.objs.size+1:=jd (Nat.lt_succ_self _);refine⟨by rw[aJ ne,aF],vm _,ne,e2,λ_=>aq,(Heap.Ns1.of_empty e3).at λo q=>cg _ q,λ_=>True.intro,λy hy=>absurd rfl hy⟩
end
section
end
section
end
end
variable{mg:Str->Option bh}{base:jj}{outer:List Env}{qual:Str}{scope:uh}
section
structure d9(qt:Bool)(k:Nat)(A:iw):Prop where
 hd:qt=ao->A.handled=aq
 dp:A.depth+3*k+5<recursionLimit
 un:A.units+16*k+200<kh
theorem d9.mono{j k:Nat}{A:iw}(r:d9 qt k A)(h:j<=k):d9 qt j A:=⟨r.hd,by have:=r.dp;omega,by have:=r.un;omega⟩
theorem d9.deeper{k:Nat}{A:iw}(r:d9 qt (k+1) A)(env:Env):d9 qt k (A.deeper env) :=
 ⟨r.hd,by have:=r.dp;show A.depth+1+3*k+5<_;omega,by have:=r.un;show A.units+3+16*k+200<_;omega⟩
theorem d9.in1{k:Nat}{A:iw}(r:d9 qt (k+1) A):d9 qt k A.in1 :=
 ⟨r.hd,by have:=r.dp;show A.depth+3*k+5<_;omega,by have:=r.un;show A.units+1+16*k+200<_;omega⟩
theorem agI{A:iw}:(A.under (.builtin "type.__call__" ⟨.ref C::us,kw⟩)).depth=A.depth+1:=by
 first|rfl|simp[iw.under,Code.weight,Code.isCreation,Code.isGuard,Code.isCaller,Code.frames,Code.isFrame,guardIds]
theorem agJ{A:iw}:(A.under (.builtin "type.__call__" ⟨.ref C::us,kw⟩)).units=A.units+1:=by
 first|rfl|simp[iw.under,Code.cUnits,Code.frames,Code.isFrame]
theorem d9.make{k:Nat}{A:iw}(r:d9 qt (k+1) A)(C:bx)(us:List bh)(kw:List (Str×bh)):d9 qt k (A.under (.builtin "type.__call__" ⟨.ref C::us,kw⟩)) :=
 ⟨r.hd,by have:=r.dp;rw[agI];omega,by have:=r.un;rw[agJ];omega⟩
theorem d9.depth{k:Nat}{A:iw}(r:d9 qt k A):A.depth<recursionLimit:=by have:=r.dp;omega
theorem d9.units{k:Nat}{A:iw}(r:d9 qt k A):A.units+64<kh:=by have:=r.un;omega
noncomputable def aHA:TA:=λ_ H Q=>Q [] H
noncomputable def az7(ta:TE)(tr:TA):TA:=λσ H Q=>ta σ H λx H1=>tr σ H1 λxs H2=>Q (x::xs) H2
section
variable{X:Cx}{t:TA}{pos:Pos}
theorem aBE:PA X [] aHA:=λ_ _ _ _ H Q I h=>Calls.spliced_nil ⟨[],H,I,.nil,h⟩
theorem auF(ha:PE X e te)(hr:PA X es t)(hs:je (e::es) X.env=(ao,eval e X.env)::je es X.env:=by rfl):PA X (e::es) (az7 te t):=by
 intro pos pins s σ H Q I h _tk;rw[hs];show cu _ _ (spliced ((ao,eval e X.env)::yh pos (je es X.env))) _ _ s;refine Calls.spliced_cons (cL (ha pins s σ H _ I h) ?_);rintro u s1 ⟨x,H1,I1,r1,q1⟩;exact cL (hr pos pins s1 σ H1 _ I1 q1) (by rintro us s2 ⟨xs,H2,I2,r2,q2⟩;exact⟨x::xs,H2,I2,.cons r1 r2,q2⟩)
noncomputable def aMW(t:TA):TE:=λσ H Q=>t σ H λxs H1=>xs.length<=dg/\∀p,H1 p=aq->Q (.ref p) (upd H1 p (.tup xs))
noncomputable def aMX(t:TA):TE:=λσ H Q=>t σ H λxs H1=>xs.length<=dg/\∀p,H1 p=aq->Q (.ref p) (upd H1 p (.lst xs))
theorem aBF{x1}(h:PA X es t):PE X (.Tuple es x1 pos) (aMW t):=by
 intro pins s σ H Q I hq _tk;refine wpAny_Tuple_spliced (cL (h pos pins s σ H _ I hq) λus s1 ⟨xs,H1,I1,r,z,q⟩=>⟨by rw[←r.length];exact z,?_⟩);have hf:H1 s1.heap.objs.size=aq:=I1.hok.fresh (dw _);refine⟨.ref s1.heap.objs.size,upd H1 s1.heap.objs.size (.tup xs),I1.laid (t':=s1.toks) (λb u e=>cg _ e) (dw _) ?_,rfl,q _ hf⟩;exact⟨z,us,r,⟨_,gV _ rfl,rfl,_,rfl⟩⟩
theorem aBG(h:PA X es t):PE X (.List es pos) (aMX t):=by
 intro pins s σ H Q I hq _tk;refine wpAny_List_spliced (cL (h pos pins s σ H _ I hq) λus s1 ⟨xs,H1,I1,r,z,q⟩=>⟨by rw[←r.length];exact z,?_⟩);have hf:H1 s1.heap.objs.size=aq:=I1.hok.fresh (dw _);refine⟨.ref s1.heap.objs.size,upd H1 s1.heap.objs.size (.lst xs),I1.laid (t':=s1.toks) (λb u e=>cg _ e) (dw _) ?_,rfl,q _ hf⟩;exact⟨z,us,0,r,gV _ rfl⟩
end
abbrev Sp:=List V->Hp->VK->XK->Prop
abbrev CXT:=List Env->Hp->cj->XK->bh->cj->Prop
structure yD(P:jt)(w:iy)(K:ig)(mg:Str->Option bh)(base:jj)(A:iw)(outer:List Env)(s:cj)(H:Hp):Prop where
 frames:A.frames=aj outer
 mod:Mod K mg base
 bs:∀b o,base.get? b=aj o->s.heap.get? b=aj o/\H b=aq
 bsz:base.objs.size<=s.heap.objs.size
 nF:s.heap.FunFrames base outer
 frf:∀b∈frs outer,H b=aq
 hok:u9 P w H s.heap
 bare:AllBare s.gens
 hnd:Hnd A H
noncomputable def CE(outer:List Env)(P:jt)(w:iy)(H:Hp)(s:cj)(Q:VK)(u:bh)(s':cj):Prop :=
 ∃v H',s'.os=s.os/\AllBare s'.gens/\Un (frs outer) [] H H' s.heap s'.heap/\u9 P w H' s'.heap/\RelV v u/\Q v H'
noncomputable def CR(CX:CXT)(outer:List Env)(P:jt)(w:iy)(H:Hp)(s:cj)(Q:VK)(E:XK)(r:Result)(s':cj):Prop :=
 match r with
 |.ok (.ret u)=>CE outer P w H s Q u s'
 |.ok _=>False
 |.error e=>CX outer H s E e s'
structure bY(qt:Bool)(P:jt)(w:iy)(K:ig)(mg:Str->Option bh)(base:jj)(CX:CXT)(k:Nat)(f:bx)(fd:ju)(ps:List Str)(sp:Sp):Prop where
 len:∀vs H Q E,sp vs H Q E->vs.length=ps.length
 run:∀(A:iw)(outer:List Env)(s:cj)(H:Hp)(args:Args)(us:List bh)(vs:List V)(Q:VK)(E:XK),d9 qt k A->yD P w K mg base A outer s H->BindsTo s fd args (ps.zip us)->Vals vs us->sp vs H Q E ->
  yu (fj P w) A (.call (.ref f) args) (CR CX outer P w H s Q E) s
theorem bY.mono{w:iy}{K:ig}{mg:Str->Option bh}{base:jj}{j k:Nat}(F:bY qt P w K mg base CX j f fd ps sp)(h:j<=k) :
  bY qt P w K mg base CX k f fd ps sp:=⟨F.len,λA outer s H args us vs Q E hr=>F.run A outer s H args us vs Q E (hr.mono h)⟩
theorem bY.imp{w:iy}{K:ig}{k:Nat}(F:bY qt P w K mg base CX k f fd ps sp)
  (h:∀vs H Q E,sp' vs H Q E->sp vs H Q E):bY qt P w K mg base CX k f fd ps sp' :=
 ⟨λvs H Q E q=>F.len vs H Q E (h _ _ _ _ q),λA outer s H args us vs Q E hr he hb hv hs=>F.run A outer s H args us vs Q E hr he hb hv (h _ _ _ _ hs)⟩
theorem yD.make{w:iy}{K:ig}{A:iw}(e:yD P w K mg base A outer s H)(C:bx)(us:List bh)(kw:List (Str×bh)) :
  yD P w K mg base (A.under (.builtin "type.__call__" ⟨.ref C::us,kw⟩)) outer s H:=⟨by first|exact e.frames|(simpa[iw.under,Code.envs,Code.isFrame,pushEnvs]using e.frames),e.mod,e.bs,e.bsz,e.nF,e.frf,e.hok,e.bare,e.hnd⟩
theorem yD.in1{w:iy}{K:ig}{A:iw}(e:yD P w K mg base A outer s H) :
  yD P w K mg base A.in1 outer s H:=⟨e.frames,e.mod,e.bs,e.bsz,e.nF,e.frf,e.hok,e.bare,e.hnd⟩
section
variable{X:Cx}{pins:List (bx×Obj)}
theorem Inv.env0(I:Inv X pins σ H s):yD X.prog X.w X.K X.mg X.base X.A X.stack s H :=
 ⟨I.ok.frames,I.ok.mod,I.bs,qz I.ok.bsz I.sz,I.stack,I.aaZ,I.hok,I.bare,I.hnd⟩
end
noncomputable def Binds(K:ig)(fd:ju)(ps:List Str)(ds:List bh):Prop :=
 ∀(s:cj)(us:List bh),K.In s.heap->(us++ds).length=ps.length->BindsTo s fd ⟨us,[]⟩ (ps.zip (us++ds))
variable{ps:List Str}
theorem Binds.all{K:ig}(h:∀us:List bh,us.length=ps.length->zj fd ⟨us,[]⟩=pure (ps.zip us)):Binds K fd ps []:=λs us _ hl=>by
 rw[a1r]at hl ⊢;exact .of_eq (h us hl)
section
variable{f C:bx}
structure Mk(K:ig)(C f:bx):Prop where
 makes:PySem.W.makesIn K C=ak
 init:qg K (.ref C) "__init__"=aj (aj (.ref f))
 fn:PySem.W.isFn K (.ref f)=ak
 kp:tu K (.ref C)=ak
end
noncomputable def PK(X:Cx)(kws:List Keyword)(t:TA):Prop :=
 ∀(pos:Pos)(pins:List (bx×Obj))(s:cj)(σ:St)(H:Hp)(Q:List V->Hp->Prop),Inv X pins σ H s->t σ H Q->[Tk X.need s]->cu (fj X.prog X.w) X.A (evalAll ((backToKw pos (keywordEach kws X.env)).map (·.2))) (AP X pins σ Q) X.xe s
section
variable{t:TA}{nm:Option Str}
theorem anL:PK X [] aHA:=λ_ _ _ _ H Q I h=>wpAny_evalAll_nil ⟨[],H,I,.nil,h⟩
theorem aiE(ha:PE X e te)(hr:PK X kws t):PK X (⟨nm,e,kpos⟩::kws) (az7 te t):=by
 intro pos pins s σ H Q I h _tk;show cu _ _ (evalAll ((do let v ←eval e X.env;standAt pos;pure v)::(backToKw pos (keywordEach kws X.env)).map (·.2))) _ _ s;refine wpAny_evalAll_cons (au (cL (ha pins s σ H _ I h) λu s1 ⟨x,H1,I1,r1,q1⟩=>au (a1h (dh ?_))));exact cL (hr pos pins s1 σ H1 _ I1 q1) (by rintro us s2 ⟨xs,H2,I2,r2,q2⟩;exact⟨x::xs,H2,I2,.cons r1 r2,q2⟩)
end
structure bA(N P:List Str)(sc:uh):Prop where
 kind:sc.kind=.function
 co:sc.isCoroutine=ao
 gen:sc.isGenerator=ao
 nd:N.Nodup
 pre:N.take P.length=P
 par:∀x∈P,sc.names.lookup x=aj .local∨sc.names.lookup x=aj .cell
 aBH:∀y∈sc.names,y.2≠.free
theorem a9L{kindOf:Str->Option nj}{x:Str}:∀{binds:List (Str×bh)}{m:Str->Option bh},(∀v,(x,v)∉binds)->bindL kindOf binds m x=m x
 |[],_,_=>rfl
 |(n,v)::r,m,h=>by
  unfold bindL;rw[a9L λw hw=>h w (jw _ hw)];split
  ·have:x≠n:=by rintro rfl;exact h v qu
   simp[this]
  .rfl
theorem a9M{kindOf:Str->Option nj}{x:Str}:∀{binds:List (Str×bh)}{m:Str->Option bh},(∀v,(x,v)∉binds)->bindC kindOf binds m x=m x
 |[],_,_=>rfl
 |(n,v)::r,m,h=>by
  unfold bindC;rw[a9M λw hw=>h w (jw _ hw)];split
  ·rfl
  .have:x≠n:=by rintro rfl;exact h v qu
   simp[this]
theorem a1E{kindOf:Str->Option nj}{x:Str}{v:bh}:∀{P:List Str}{vs:List bh}{i:Nat}{m:Str->Option bh},P.Nodup->P[i]?=aj x->vs[i]?=aj v->kindOf x=aj .local ->
  bindL kindOf (P.zip vs) m x=aj v
 |[],_,_,_,_,h,_,_=>by simp at h
 |_::_,[],_,_,_,_,h,_=>by simp at h
 |p::P,w::vs,0,m,nd,h1,h2,hk=>by
  simp at h1 h2;subst h1;subst h2;show bindL kindOf ((p,w)::P.zip vs) m p=_;unfold bindL;rw[a9L λv hv=>(vo.mp nd).1 (a2l hv).1,if_pos hk];simp
 |p::P,w::vs,i+1,m,nd,h1,h2,hk=>by
  show bindL kindOf ((p,w)::P.zip vs) m x=_;unfold bindL;exact a1E (i:=i) (vo.mp nd).2 (by simpa using h1) (by simpa using h2) hk
theorem a9N{kindOf:Str->Option nj}{x:Str}{v:bh}:∀{P:List Str}{vs:List bh}{i:Nat}{m:Str->Option bh},P.Nodup->P[i]?=aj x->vs[i]?=aj v->kindOf x≠aj .local ->
  bindC kindOf (P.zip vs) m x=aj v
 |[],_,_,_,_,h,_,_=>by simp at h
 |_::_,[],_,_,_,_,h,_=>by simp at h
 |p::P,w::vs,0,m,nd,h1,h2,hk=>by
  simp at h1 h2;subst h1;subst h2;show bindC kindOf ((p,w)::P.zip vs) m p=_;unfold bindC;rw[a9M λv hv=>(vo.mp nd).1 (a2l hv).1,if_neg hk];simp
 |p::P,w::vs,i+1,m,nd,h1,h2,hk=>by
  show bindC kindOf ((p,w)::P.zip vs) m x=_;unfold bindC;exact a9N (i:=i) (vo.mp nd).2 (by simpa using h1) (by simpa using h2) hk
noncomputable def start(N:List Str)(vs:List V):St:=vs.map aj++a0o (N.length - vs.length) aq
noncomputable def lR(qt:Bool)(CX:CXT)(P:jt)(w:iy)(K:ig)(mg:Str->Option bh)(base:jj)(N:List Str)(qual:Str)(scope:uh)(f:bx)(cd:bh)(A:iw)(outer:List Env)(s:cj)(H:Hp)(E:XK):Cx where
 prog:=P
 w:=w
 K:=K
 mg:=mg
 base:=base
 A:=A.deeper (envOfC qual scope s.heap.objs.size f cd)
 N:=N
 s₀:=s
 H₀:=H
 env:=envOfC qual scope s.heap.objs.size f cd
 outer:=outer
 stack:=envOfC qual scope s.heap.objs.size f cd::outer
 ex:=[]
 calm:=!qt
 fn:=λ_=>ak
 pn:=[]
 tp:=[]
 xe:=λe s'=>cu (fj P w) (A.deeper (envOfC qual scope s.heap.objs.size f cd)) (leaving (envOfC qual scope s.heap.objs.size f cd) e) (λ_ s''=>CX outer H s E e s'') (λe' s''=>CX outer H s E e' s'') s'
instance aPM{qt:Bool}{CX:CXT}{P:jt}{w:iy}{K:ig}{mg:Str->Option bh}{base:jj}{N:List Str}{qual:Str}{scope:uh}{f:bx}{cd:bh}{A:iw}{outer:List Env}{s s1:cj}{H:Hp}{E:XK}:Tk (lR qt CX P w K mg base N qual scope f cd A outer s H E).need s1:=⟨λz=>nomatch z⟩
theorem a5D{sc:uh}(h:sc.names.lookup x=aj .cell):∃c,(zm n sc.names []).lookup x=aj c:=by
 have q:=PySem.W.cellsFrom_some sc.names n [] (.inl h);exact a0q.mp q
theorem akS{w:iy}{K:ig}{A:iw}{s:cj}{vs:List V}
  (S:bA N ps scope)(hd:qt=ao->A.handled=aq)(e0:yD P w K mg base A outer s H)(hl:vs.length=ps.length)(r:Vals vs us)
  (x:InCallC s s.heap.objs.size (bindL (envOfC qual scope s.heap.objs.size f cd).kindOf (ps.zip us) λ_=>aq) (zm (s.heap.objs.size+1) scope.names []) (bindC (envOfC qual scope s.heap.objs.size f cd).kindOf (ps.zip us) λ_=>aq) s1) :
  Inv (lR qt CX P w K mg base N qual scope f cd A outer s H E) [] (start N vs) H s1:=by
 have hpl:ps.length<=N.length:=by have:=congrArg List.length S.pre;rw[wj]at this;omega
 obtain⟨h1,tk,rfl,hk⟩:=x.done;have noA:∀b:bx,b∉(lR qt CX P w K mg base N qual scope f cd A outer s H E).ex:=λb z=>absurd (show b∈([]:List bx)from z) (by simp)
 refine⟨⟨e0.mod,S.kind,rfl,rfl,dw _,λy z c h1 h2=>?_,λy hy=>?_,λy c _ h=>?_,λz=>hd (by cases qt with|false=>rfl|true=>cases z),iw.frames_deeper e0.frames,.inr ⟨rfl,rfl⟩,λb z=>absurd z (noA b),e0.bs,e0.bsz,λb _ _=>noA b,λb z=>absurd z (noA b),e0.nF,e0.frf⟩,
  rfl,e0.bare,Un.kept hk,⟨_,x.toInCall.ns,λi y v h1 h2 h3=>?_⟩,λy c h=>⟨_,x.cell y c h⟩,e0.hok.fresh (dw _),λy c h=>?_,λp hp=>absurd (show p∈([]:List (bx×Obj))from hp) (by simp),e0.hok.kept hk,?_,e0.hnd,λp hp=>absurd (show p∈([]:List (bx×List V))from hp) (by simp)⟩
 .exact name_of_addr x.apart (PySem.mem_of_lookup h1) (PySem.mem_of_lookup h2)
 .have hy:scope.names.lookup y=aj .cell∨scope.names.lookup y=aj .free:=hy;rcases hy with hy|hy
  .exact a5D hy
  .exact absurd rfl (S.aBH _ (PySem.mem_of_lookup hy))
 .exact ur (x.above y c (PySem.mem_of_lookup h))
 .have hi:i<vs.length:=by
   unfold start at h2;by_cases hi:i<vs.length
   .exact hi
   .rw[uo (by simpa using hi)]at h2;rw[List.getElem?_replicate]at h2;split at h2<;>cases h2
  have ha:vs[i]?=aj v:=by
   unfold start at h2;rw[pq (by simpa using hi),nu]at h2;cases e:vs[i]? with
   |none=>rw[e]at h2;cases h2
   |some a=>rw[e]at h2;cases h2;rfl
  obtain⟨u,hu,rv⟩:=r.get ha
  have hp:ps[i]?=aj y:=by
   rw[←S.pre,a1w (by omega)];exact h1
  have ndP:ps.Nodup:=by rw[←S.pre];exact S.nd.sublist (List.take_sublist _ _)
  refine⟨u,rv,?_⟩;rcases S.par y (lq hp)with k|k
  .exact .inl ⟨k,a1E ndP hp hu k⟩
  .obtain⟨c,e⟩:=a5D (n:=s.heap.objs.size+1) k;refine .inr ⟨.inl k,c,e,?_⟩;have q:=x.cell y c e;rw[a9N ndP hp hu (by show scope.names.lookup y≠_;rw[k];decide)]at q;exact q
 .exact e0.hok.fresh (ur (x.above y c (PySem.mem_of_lookup h)))
 .unfold start;show _=N.length;rw[vp,jc,List.length_replicate];omega
set_option tactic.hygienic true in
theorem anM{w:iy}{K:ig}{k:Nat}{name:Str}{params:Arguments}{kV ct:bh}(lk:K.lookup f=aj ⟨oc,od,.func (qx name qual params body scope dV kV doc pm an cdv ct),osl⟩)(hcd:a1z K cdv qual=ak)(S:bA N ps scope)
  (len:∀vs H Q E,sp vs H Q E->vs.length=ps.length)
  (hbody:∀(A:iw)(outer:List Env)(s:cj)(H:Hp)(vs:List V)(Q:VK)(E:XK),d9 qt k (A.deeper (envOfC qual scope s.heap.objs.size f cdv))->sp vs H Q E ->
   ∃t,PSs (lR qt CX P w K mg base N qual scope f cdv A outer s H E) body t/\t {nx:=λ_ H'=>Q .non H',rt:=Q} (start N vs) H) :
  bY qt P w K mg base CX (k+1) f (qx name qual params body scope dV kV doc pm an cdv ct) ps sp:=by
 refine⟨len,λA outer s H args us vs Q E hr e0 hb r hsp=>?_⟩;have hl:=len _ _ _ _ hsp;have KX:K.In s.heap:=e0.mod.kin.keeps λb o e=>(e0.bs b o e).1;have lim:s.heap.NoLimit:=e0.mod.nolimit.keeps λb o e=>(e0.bs b o e).1
 have hkind:∀y∈ps.zip us,scope.names.lookup y.1=aj .local∨(scope.names.lookup y.1=aj .cell/\((zm (s.heap.objs.size+1) scope.names []).lookup y.1).isSome=ak):=λ⟨n,v⟩ hy=>by
  rcases S.par n (a2l hy).1 with q|q
  .exact .inl q
  .exact .inr ⟨q,PySem.W.cellsFrom_some _ _ _ (.inl q)⟩
 refine codeAny_call_function hr.depth (KX _ _ lk) rfl S.co S.gen rfl (PySem.W.codeRec_of KX hcd) (hb _ _ _ _ ?_);refine wpAny_newFunctionEnv_cells S.kind hkind λenv he s1 x=>?_;subst he;refine⟨lim.keeps x.toInCall.keep,codeAny_func ?_⟩;obtain⟨t,ht,hq⟩:=hbody A outer s H vs Q E (hr.deeper _) hsp;have I:Inv (lR qt CX P w K mg base N qual scope f cdv A outer s H E) [] (start N vs) H s1:=akS S hr.hd e0 hl r x;refine lg (@ht [] s1 (start N vs) H _ I hq ⟨λz=>nomatch z⟩) (λfl s' hs=>?_) λe s' hs=>hs
 have fin:∀{σ':St}{H':Hp}{v:V}{u:bh},Inv (lR qt CX P w K mg base N qual scope f cdv A outer s H E) [] σ' H' s'->RelV v u->Q v H'->CE outer P w H s Q u s' :=
  λ{σ' H' v u} J rv q=>⟨v,H',J.os,J.bare,J.base,J.hok,rv,q⟩
 cases fl with
 |ret u =>
  obtain⟨v,σ',H',J,rv,q⟩:=hs;exact fin J rv q
 |next =>
  obtain⟨σ',H',J,q⟩:=hs;exact fin (v:=V.non) (u:=Value.none) J rfl q
 |brk =>
  obtain⟨_,_,_,q⟩:=hs;exact False.elim q
 |cont =>
  obtain⟨_,_,_,q⟩:=hs;exact False.elim q
end
section
section
end
end
variable{h':jj}
section
section
variable{κ:Type}[DecidableEq κ]
noncomputable def yE(kvs:List (κ×V))(k:κ):Option V:=(kvs.find? λkv=>decide (kv.1=k)).map (·.2)
noncomputable def putK(kvs:List (κ×V))(k:κ)(v:V):List (κ×V) :=
 if(kvs.any λkv=>decide (kv.1=k))=ak then kvs.map (λkv=>if kv.1=k then(kv.1,v)else kv)else kvs++[(k,v)]
noncomputable def aiF(kvs:List (κ×V))(k:κ):List (κ×V):=kvs.filter λkv=>decide (kv.1≠k)
theorem z8{p:κ×V}{k:κ}(e:p.1=k):yE (p::r) k=aj p.2:=by simp[yE,a0V,e]
theorem z9{p:κ×V}{k:κ}(e:¬ p.1=k):yE (p::r) k=yE r k:=by simp[yE,a0V,e]
theorem a5E(k:κ):∀kvs:List (κ×V),(kvs.any λkv=>decide (kv.1=k))=(yE kvs k).isSome
 |[]=>rfl
 |p::r=>by
  rw[a0v];by_cases e:p.1=k
  .simp only[z8 e,decide_eq_true e,Bool.true_or,Option.isSome_some]
  .rw[z9 e,decide_eq_false e,Bool.false_or];exact a5E k r
theorem oK(kvs:List (κ×V))(k:κ)(v:V):(putK kvs k v).length<=kvs.length+1:=by
 unfold putK;split
 ·rw[jc];omega
 .rw[vp,ug,a2m];omega
variable{o:Option V}
theorem a3J.pP{u:Option bh}(r:a3J o u):o.isSome=u.isSome:=by
 cases o with
 |none=>cases u with
  |none=>rfl
  |some _=>exact(show False from r).elim
 |some _=>cases u with
  |none=>exact(show False from r).elim
  |some _=>rfl
theorem a3J.getD{u:Option bh}(r:a3J o u)(rd:RelV d d'):RelV (o.getD d) (u.getD d'):=by
 cases o with
 |none=>cases u with
  |none=>exact rd
  |some _=>exact(show False from r).elim
 |some _=>cases u with
  |none=>exact(show False from r).elim
  |some _=>exact r
theorem KV.val(r:KV kvs vs)(k:κ):a3J (yE kvs k) (valueAt vs k):=by
 unfold KV at r
 induction r with
 |nil=>exact True.intro
 |@cons p q ps qs h t ih =>
  obtain⟨h1,h2⟩:=h;by_cases e:p.1=k
  .have e':q.1=k:=h1.symm.trans e;have b:valueAt (q::qs) k=aj q.2:=by simp[valueAt,a0V,e']
   rw[z8 e,b];exact h2
  .have e':¬ q.1=k:=λz=>e (h1.trans z);have b:valueAt (q::qs) k=valueAt qs k:=by simp[valueAt,a0V,e']
   rw[z9 e,b];exact ih
theorem KV.any{kvs:List (κ×V)}{vs:List (κ×bh)}(r:KV kvs vs)(k:κ):(kvs.any λkv=>decide (kv.1=k))=vs.any λkv=>decide (kv.1=k):=by
 unfold KV at r
 induction r with
 |nil=>rfl
 |cons h t ih=>rw[a0v,a0v,ih,h.1]
theorem KV.repl{kvs:List (κ×V)}{vs:List (κ×bh)}(r:KV kvs vs)(k:κ)(ry:RelV y u) :
  KV (kvs.map λkv=>if kv.1=k then(kv.1,y)else kv) (vs.map λkv=>if kv.1=k then(kv.1,u)else kv):=by
 unfold KV at r ⊢
 induction r with
 |nil=>exact .nil
 |@cons p q ps qs h t ih =>
  rw[qd,qd];refine .cons ?_ ih;obtain⟨h1,h2⟩:=h;by_cases e:p.1=k
  .rw[if_pos e,if_pos (h1.symm.trans e)];exact⟨h1,ry⟩
  .rw[if_neg e,if_neg (λz=>e (h1.trans z))];exact⟨h1,h2⟩
theorem KV.put(r:KV kvs vs)(k:κ)(ry:RelV y u):KV (putK kvs k y) (stored vs k u):=by
 unfold putK stored;rw[r.any k];by_cases e:(vs.any λkv=>decide (kv.1=k))=ak
 .rw[if_pos e,if_pos e];exact r.repl k ry
 .rw[if_neg e,if_neg e];exact Paired.snoc r ⟨rfl,ry⟩
theorem KV.drop(r:KV kvs vs)(k:κ):KV (aiF kvs k) (without vs k):=by
 unfold KV at r ⊢;unfold aiF without
 induction r with
 |nil=>exact .nil
 |@cons p q ps qs h t ih =>
  obtain⟨h1,h2⟩:=h;rw[a0c,a0c];by_cases e:p.1=k
  .have a:¬ decide (p.1≠k)=ak:=by simp[e]
   have b:¬ decide (q.1≠k)=ak:=by simp[h1.symm.trans e]
   rw[if_neg a,if_neg b];exact ih
  .have e':¬ q.1=k:=λz=>e (h1.trans z);have a:decide (p.1≠k)=ak:=by simp[e]
   have b:decide (q.1≠k)=ak:=by simp[e']
   rw[if_pos a,if_pos b];exact .cons ⟨h1,h2⟩ ih
theorem KV.length{kvs:List (κ×V)}{vs:List (κ×bh)}(r:KV kvs vs):kvs.length=vs.length:=Paired.length r
end
theorem a5F{w:iy}{k:Key}(r:RelV (kV k) u):(bH P w).is k u=ak:=by
 cases k with
 |inl i=>obtain⟨t,e⟩:=(show ∃t,u=bh.int i t from r);subst e;exact ad2 P w i t
 |inr x=>obtain⟨t,e⟩:=(show ∃t,u=bh.str x t from r);subst e;exact ad3 P w x t
theorem a1F{w:iy}:∀{ks:List Key}{us:List bh},Vals (ks.map kV) us->ItemsAre (bH P w) ks us
 |[],_,r=>by rw[a2n]at r;cases r;exact .nil
 |k::ks,_,r=>by
  rw[qd]at r;cases r with
  |cons h t=>exact .cons (a5F h) (a1F t)
noncomputable abbrev KT(H:Hp):List (List Key×V)->List (List Key×bx×bh)->Prop:=Paired λp q=>p.1=q.1/\H q.2.1=aj (.tup (p.1.map kV))/\RelV p.2 q.2.2
theorem KT.val(r:KT H kvs xs)(k:List Key):a3J (yE kvs k) ((atKey xs k).map (·.2)):=by
 induction r with
 |nil=>exact True.intro
 |@cons p q ps qs h t ih =>
  obtain⟨h1,_,h2⟩:=h;by_cases e:p.1=k
  .have e':q.1=k:=h1.symm.trans e;have b:atKey (q::qs) k=aj q.2:=by simp[atKey,a0V,e']
   rw[z8 e,b];exact h2
  .have e':¬ q.1=k:=λz=>e (h1.trans z);have b:atKey (q::qs) k=atKey qs k:=by simp[atKey,a0V,e']
   rw[z9 e,b];exact ih
theorem KT.repl{kvs:List (List Key×V)}{xs:List (List Key×bx×bh)}(r:KT H kvs xs)(k:List Key)(ry:RelV y u) :
  KT H (kvs.map λkv=>if kv.1=k then(kv.1,y)else kv) (xs.map (putAt k u)):=by
 induction r with
 |nil=>exact .nil
 |@cons p q ps qs h t ih =>
  rw[qd,qd];refine .cons ?_ ih;obtain⟨h1,h2,h3⟩:=h;unfold putAt;by_cases e:p.1=k
  .rw[if_pos e,if_pos (h1.symm.trans e)];exact⟨h1,h2,ry⟩
  .rw[if_neg e,if_neg (λz=>e (h1.trans z))];exact⟨h1,h2,h3⟩
theorem KT.put(r:KT H kvs xs)(k:List Key)(hb:H b=aj (.tup (k.map kV)))(ry:RelV y u) :
  KT H (putK kvs k y) (a1k xs k b u):=by
 have e:(kvs.any λkv=>decide (kv.1=k))=(atKey xs k).isSome:=by
  rw[a5E,(r.val k).pP,Option.isSome_map]
 unfold putK a1k;rw[e];by_cases q:(atKey xs k).isSome=ak
 .rw[if_pos q,if_pos q];exact r.repl k ry
 .rw[if_neg q,if_neg q];exact Paired.snoc r ⟨rfl,hb,ry⟩
theorem KT.keeps(r:KT H kvs xs)(ht:∀b ys,H b=aj (.tup ys)->H' b=aj (.tup ys)):KT H' kvs xs :=
 Paired.agD r λ_ _ z=>⟨z.1,ht _ _ z.2.1,z.2.2⟩
section
variable{w:iy}{h:jj}
theorem az8(ok:u9 P w H h)(e:Rd H a u):dM P w H h a u:=e.ok ok
theorem xJ{kvs:List (Key×V)}(ok:u9 P w H h)(e:Rd H a (.dK kvs)):kvs.length<=dg/\(a==vd)=ao/\∃vs,KV kvs vs/\h.DictOf (bH P w) a vs :=
 show dM P w H h a (.dK kvs)from az8 ok e
theorem az9{kvs:List (Key×V)}(ok:u9 P w H h)(e:H a=aj (.dK kvs)):kvs.length<=dg/\(a==vd)=ao/\∃vs,KV kvs vs/\h.DictOf (bH P w) a vs:=xJ ok (.inl e)
theorem yF{ks:List Key}(ok:u9 P w H h)(e:H a=aj (.tup (ks.map kV))):(zu (bH P w)).is h ks a:=by
 obtain⟨_,its,r,o,h1,h2,n,h3⟩:=(show dM P w H h a (.tup (ks.map kV))from ok a _ e);exact⟨o,its.toArray,n,h1,h2,h3,by simpa using a1F r⟩
variable{kvs:List (List Key×V)}
theorem a2L(ok:u9 P w H h)(e:Rd H a (.dT kvs)):kvs.length<=dg/\(a==vd)=ao /\
  ∃xs,KT H kvs xs/\h.DictOfH (zu (bH P w)) a xs:=by
 obtain⟨z,y,xs,r,o,es,ep,h1,h2,h3,h4,h5⟩:=(show dM P w H h a (.dT kvs)from az8 ok e);refine⟨z,y,xs,r,o,es,ep,h1,h2,h3,h4,λx hx=>?_,h5⟩
 have all:∀{l:List (List Key×V)}{m:List (List Key×bx×bh)},KT H l m->∀x∈m,(zu (bH P w)).is h x.1 x.2.1:=by
  intro l m q
  induction q with
  |nil=>intro x hx;exact nomatch hx
  |@cons p q ps qs hq t ih =>
   intro x hx;rcases jm.mp hx with e|hx
   .subst e;exact yF ok (by rw[←hq.1];exact hq.2.1)
   .exact ih x hx
 exact all r x hx
theorem anN(ok:u9 P w H h)(e:H a=aj (.dT kvs)):kvs.length<=dg/\(a==vd)=ao /\
  ∃xs,KT H kvs xs/\h.DictOfH (zu (bH P w)) a xs:=a2L ok (.inl e)
end
noncomputable def yG(H:Hp)(a:bx)(y:V)(r:Option V):Prop :=
 (∃kvs k,Rd H a (.dK kvs)/\y=kV k/\r=yE kvs k)∨∃kvs k b,Rd H a (.dT kvs)/\y=.ref b/\H b=aj (.tup (k.map kV))/\r=yE kvs k
noncomputable def ad5(H:Hp)(a:bx)(y v:V)(H':Hp):Prop :=
 (∃kvs k,H a=aj (.dK kvs)/\y=kV k/\kvs.length<dg/\H'=upd H a (.dK (putK kvs k v))) ∨
 ∃kvs k b,H a=aj (.dT kvs)/\y=.ref b/\H b=aj (.tup (k.map kV))/\kvs.length<dg/\H'=upd H a (.dT (putK kvs k v))
theorem yG.k{k:Key}(e:H a=aj (.dK kvs)):yG H a (kV k) (yE kvs k):=.inl ⟨kvs,k,.inl e,rfl,rfl⟩
theorem yG.t{k:List Key}(e:H a=aj (.dT kvs))(eb:H b=aj (.tup (k.map kV))):yG H a (.ref b) (yE kvs k):=.inr ⟨kvs,k,b,.inl e,rfl,eb,rfl⟩
theorem ad5.k{kvs:List (Key×V)}{k:Key}(e:H a=aj (.dK kvs))(hl:kvs.length<dg):ad5 H a (kV k) v (upd H a (.dK (putK kvs k v))):=.inl ⟨kvs,k,e,rfl,hl,rfl⟩
theorem ad5.t{kvs:List (List Key×V)}{k:List Key}(e:H a=aj (.dT kvs))(eb:H b=aj (.tup (k.map kV)))(hl:kvs.length<dg) :
  ad5 H a (.ref b) v (upd H a (.dT (putK kvs k v))):=.inr ⟨kvs,k,b,e,rfl,eb,hl,rfl⟩
section
variable{X:Cx}{pins:List (bx×Obj)}{s:cj}{o:Option V}{A:iw}
theorem Inv.big(I:Inv X pins σ H s):vd<s.heap.objs.size:=by
 have h:ji<s.heap.objs.size:=(I.mod.glob.keeps I.bk).lt;exact Nat.lt_trans (by decide) h
theorem akT(hu:A.units+1<kh)(I:Inv X pins σ H s)(g:yG H a y (aj v))(ry:RelV y u)(h:∀w' s',Inv X pins σ H s'->RelV v w'->Q w' s') :
  cu (fj X.prog X.w) A (getItem (.ref a) u) Q E s:=by
 rcases g with⟨kvs,k,e,ey,l⟩|⟨kvs,k,b,e,ey,eb,l⟩
 .subst ey;obtain⟨z,hd,vs,rel,dd⟩:=xJ I.hok e;obtain⟨w',hw,rw'⟩:=a3J.some_of (v:=v) (o:=valueAt vs k) (by rw[l];exact rel.val k);exact wpAny_getItem_of (a5F ry) dd.mapOf hw (h w' _ (I.tok _) rw')
 .subst ey;cases(show u=bh.ref b from ry);obtain⟨z,hd,xs,rel,dd⟩:=a2L I.hok e;obtain⟨w',hw,rw'⟩:=a3J.some_of (v:=v) (o:=(atKey xs k).map (·.2)) (by rw[l];exact rel.val k);obtain⟨p,hp,hp2⟩:=za.mp hw;refine wpAny_getItem_heap (vq hu) (yF I.hok eb) dd hp ?_;rw[hp2];exact h w' _ (I.tok _) rw'
theorem aMY(hu:A.units+1<kh)(I:Inv X pins σ H s)(g:yG H a y o)(ry:RelV y u)(h:∀s',Inv X pins σ H s'->Q (.bool o.isSome) s') :
  cu (fj X.prog X.w) A (jg .In u (.ref a)) Q E s:=by
 rcases g with⟨kvs,k,e,ey,l⟩|⟨kvs,k,b,e,ey,eb,l⟩
 .subst ey;obtain⟨z,hd,vs,rel,dd⟩:=xJ I.hok e;refine wpAny_in_of (a5F ry) hd dd.mapOf ?_;rw[←(rel.val k).pP,←l];exact h _ (I.tok _)
 .subst ey;cases(show u=bh.ref b from ry);obtain⟨z,hd,xs,rel,dd⟩:=a2L I.hok e;refine wpAny_in_heap (vq hu) (yF I.hok eb) hd dd ?_;have q:=(rel.val k).pP;rw[Option.isSome_map]at q;rw[←q,←l];exact h _ (I.tok _)
theorem auG(hu:A.units+1<kh)(I:Inv X pins σ H s)(g:yG H a y o)(ry:RelV y u)(h:∀s',Inv X pins σ H s'->Q (.bool (!o.isSome)) s') :
  cu (fj X.prog X.w) A (jg .NotIn u (.ref a)) Q E s:=by
 rcases g with⟨kvs,k,e,ey,l⟩|⟨kvs,k,b,e,ey,eb,l⟩
 .subst ey;obtain⟨z,hd,vs,rel,dd⟩:=xJ I.hok e;refine wpAny_notIn_of (a5F ry) hd dd.mapOf ?_;rw[←(rel.val k).pP,←l];exact h _ (I.tok _)
 .subst ey;cases(show u=bh.ref b from ry);obtain⟨z,hd,xs,rel,dd⟩:=a2L I.hok e;refine wpAny_notIn_heap (vq hu) (yF I.hok eb) hd dd ?_;have q:=(rel.val k).pP;rw[Option.isSome_map]at q;rw[←q,←l];exact h _ (I.tok _)
theorem zA{ob:HO}(I:Inv X pins σ H s)(mu:Mut (H a))(hs:qw a s.heap h')(he:∃q,h'.get? a=aj q)(new:dM X.prog X.w (upd H a ob) h' a ob) :
  Inv X pins σ (upd H a ob) {s with heap:=h',toks:=t' } :=
 I.write (x:=a) (e:=a) mu (.inl rfl) (λb q hb z=>(hs.2 b hb).trans z) he new
theorem anO{w:iy}{kvs:List (Key×V)}(z:kvs.length<=dg)(hd:(a==vd)=ao)(rel:KV kvs vs)(dd:h'.DictOf (bH P w) a vs) :
  dM P w H' h' a (.dK kvs):=⟨z,hd,vs,rel,dd⟩
theorem akV(hu:A.units+1<kh)(I:Inv X pins σ H s)(g:ad5 H a y v H')(ry:RelV y u)(rv:RelV v r)(h:∀s',Inv X pins σ H' s'->Q () s') :
  cu (fj X.prog X.w) A (setItem (.ref a) u r) Q E s:=by
 rcases g with⟨kvs,k,e,ey,l,eH⟩|⟨kvs,k,b,e,ey,eb,l,eH⟩
 .subst ey eH;obtain⟨z,hd,vs,rel,dd⟩:=az9 I.hok e;have hz:vs.length<=dg:=by rw[←rel.length];exact z
  have hl:(putK kvs k v).length<=dg:=by have:=oK kvs k v;omega
  refine wpAny_setItem_pairs (hsz:=hz) (a5F ry) dd λh' dd' hs=>h _ ?_;have he:∃q,h'.get? a=aj q:=let⟨q,_,_,hq,_⟩:=dd';⟨q,hq⟩
  exact zA I (by rw[e];exact True.intro) hs he (anO hl hd (rel.put k rv) dd')
 .subst ey eH;cases(show u=bh.ref b from ry);obtain⟨z,hd,xs,rel,dd⟩:=anN I.hok e;have hz:xs.length<=dg:=by rw[←Paired.length rel];exact z
  have hl:(putK kvs k v).length<=dg:=by have:=oK kvs k v;omega
  refine wpAny_setItem_heap (hsz:=hz) (vq hu) (yF I.hok eb) dd λh' dd' hs=>h _ ?_;obtain⟨q,es,ep,hq,h2,h3,h4,_,h5⟩:=dd';refine zA I (by rw[e];exact True.intro) hs ⟨q,hq⟩ ⟨hl,hd,_,(rel.put k eb rv).keeps λc ys ec=>?_,q,es,ep,hq,h2,h3,h4,h5⟩;rw[aJ (a9F ec e (λz=>nomatch z))];exact ec
end
section
end
def aHB(i:jf):Prop:=∀ov iv,subscripted i ao ov iv=operate [ov,iv] (getItem ov iv)
theorem auH{prog:jt}{w:iy}{A:iw}{env:Env}{T id:String} 
  (hl:typeLookup (.type T) "__getitem__"=pure (aj (.builtin id)))(hs:aHB slice)
  (h:cu (fj prog w) A (eval value env) (λo s₁=>cu (fj prog w) A (eval slice env) (λi s₂=>s₂.TypeIs o T/\cu (fj prog w) A (getItem o i) Q E s₂) E s₁) E s) :
  cu (fj prog w) A (eval (.Subscript value slice pos) env) Q E s:=by
 refine Subscript_ (lg h (λo s₁ h₁=>lg h₁ (λi s₂ h₂=>?_) λ_ _ x=>x) λ_ _ x=>x);obtain⟨hT,h₂⟩:=h₂;unfold subscriptTail;refine au ?_;rw[getitemInPython_of_ne hT.not_modules];refine au (wpAny_specialOf hT hl ?_)
 have fin:cu (fj prog w) A (subscripted slice ao o i) (λr s₃=>cu (fj prog w) A (letTemporaryGo value o r >>= λ_=>pure r) Q E s₃) E s₂:=by
  rw[hs o i];exact wpAny_operating (lg h₂ (λr s₃ h₃=>au (wpAny_letTemporaryGo (dh h₃))) λ_ _ x=>x)
 first
  |exact dh (au fin)
  |exact au (dh (au fin))
  |exact au fin
theorem ad6{s:cj}(I:Inv X pins σ H s)(g:yG H a y o):s.TypeIs (.ref a) "dict":=by
 rcases g with⟨kvs,k,e,_,_⟩|⟨kvs,k,b,e,_,_,_⟩
 .obtain⟨_,_,vs,_,dd⟩:=xJ I.hok e;exact dd.typeIs
 .obtain⟨_,_,xs,_,dd⟩:=a2L I.hok e;exact dd.typeIs
noncomputable def aHC(td ty tv:TE):TS:=λD σ H=>tv σ H λv H1=>td σ H1 λx H2=>ty σ H2 λy H3=>∃a H4,x=.ref a/\ad5 H3 a y v H4/\D.nx σ H4
section
variable{X:Cx}{pos:Pos}{ty:TE}
theorem auI(hu:X.A.units+1<kh)(ho:PE X o td)(hi:PE X i ty)(hv:PE X value tv)(hs:a0z value (aj (.Subscript o i pos')) pos.line X.env=pure ao) :
  PS X (.Assign [.Subscript o i pos'] value pos) (aHC td ty tv):=by
 intro pins s σ H D I h _tk;refine wpAny_Assign_Subscript (cL (hv pins s σ H _ I h) λr s1 ⟨v,H1,I1,rv,q1⟩=>cL (ho pins s1 σ H1 _ I1 q1) λu s2 ⟨x,H2,I2,rx,q2⟩=>cL (hi pins s2 σ H2 _ I2 q2) ?_) hs;rintro iv s3 ⟨y,H3,I3,ry,a,H4,ex,g,q3⟩;subst ex;obtain rfl:u=bh.ref a:=rx;exact akV hu I3 g ry rv λs4 I4=>⟨σ,H4,I4,q3⟩
end
theorem ad7{w:iy}(h:jj)(hb:vd<h.objs.size):dM P w H (h.push {cls:=.type "dict",data:=.dict #[]}) h.objs.size (.dK []) :=
 ⟨vm _,beq_eq_false_iff_ne.mpr (Ne.symm (jd hb)),[],.nil,Heap.DictOf.new h⟩
theorem ad8{w:iy}(h:jj)(hb:vd<h.objs.size):dM P w H (h.push {cls:=.type "dict",data:=.dict #[]}) h.objs.size (.dT []) :=
 ⟨vm _,beq_eq_false_iff_ne.mpr (Ne.symm (jd hb)),[],.nil,_,#[],0,gV _ rfl,⟨rfl,rfl,rfl⟩,rfl,rfl,a1B⟩
noncomputable def aBJ:TE:=λ_ H Q=>∀p,H p=aq->Q (.ref p) (upd H p (.dK []))
noncomputable def aBK:TE:=λ_ H Q=>∀p,H p=aq->Q (.ref p) (upd H p (.dT []))
section
variable{pos:Pos}
theorem anP:PE X (.Dict [] [] pos) aBJ:=λpins s σ H Q I h =>
 wpAny_Dict_empty ⟨.ref s.heap.objs.size,_,I.laid (a:=s.heap.objs.size) (o:=.dK []) (t':=s.toks) (λ_ _ q=>cg _ q) (dw _) (ad7 s.heap I.big),rfl,h _ (I.hok.fresh (dw _))⟩
theorem anQ:PE X (.Dict [] [] pos) aBK:=λpins s σ H Q I h =>
 wpAny_Dict_empty ⟨.ref s.heap.objs.size,_,I.laid (a:=s.heap.objs.size) (o:=.dT []) (t':=s.toks) (λ_ _ q=>cg _ q) (dw _) (ad8 s.heap I.big),rfl,h _ (I.hok.fresh (dw _))⟩
end
structure M2(X:Cx)(o:jf)(m:Str)(apos:Pos)(e f:jf)(cpos:Pos):Prop where
 base:zx o m X.env (eval o X.env)=eval o X.env
 few:((yh cpos (je [e,f] X.env)).all (λx=>!x.1)&&(backToKw cpos (keywordEach [] X.env)).all (λx=>x.1.isSome)
  &&decide (([e,f]:List jf).length+([]:List Keyword).length+(if([]:List Keyword).isEmpty then 0 else 1)<30))=ak
 line:(apos.endLine==cpos.line)=ak
 trees:yh cpos (je [e,f] X.env)=[(ao,eval e X.env),(ao,eval f X.env)]
def IsD(H:Hp)(a:bx):Prop:=(∃kvs,Rd H a (.dK kvs))∨∃kvs,Rd H a (.dT kvs)
theorem anR{s:cj}(I:Inv X pins σ H s)(d:IsD H a) :
  s.TypeIs (.ref a) "dict"/\(∀b,bh.ref a=.ref b->∃ob,s.heap.get? b=aj ob/\ob.dict=aq)/\(a==vd)=ao:=by
 rcases d with⟨kvs,e⟩|⟨kvs,e⟩
 .obtain⟨_,hd,vs,_,dd⟩:=xJ I.hok e;refine⟨dd.typeIs,λb q=>?_,hd⟩;cases q;obtain⟨ob,_,_,h1,h2,_⟩:=dd;exact⟨ob,h1,h2.2.1⟩
 .obtain⟨_,hd,xs,_,dd⟩:=a2L I.hok e;refine⟨dd.typeIs,λb q=>?_,hd⟩;cases q;obtain⟨ob,_,_,h1,h2,_⟩:=dd;exact⟨ob,h1,h2.2.1⟩
section
variable{X:Cx}{pins:List (bx×Obj)}{o:Option V}{A:iw}
theorem aBL(hu:A.units+1<kh)(I:Inv X pins σ H s)(g:yG H a y o)(ry:RelV y u)(rd:RelV d r)(h:∀w' s',Inv X pins σ H s'->RelV (o.getD d) w'->Q w' s') :
  cu (fj X.prog X.w) A (call (.builtin "dict.get") [.ref a,u,r]) Q E s:=by
 rcases g with⟨kvs,k,e,ey,l⟩|⟨kvs,k,b,e,ey,eb,l⟩
 .subst ey;obtain⟨z,hd,vs,rel,dd⟩:=xJ I.hok e;refine call_meetsIn PySem.F.slot_dict_get dd.typeIs PySem.F.entry_dict_get (PySem.F.args_dict_get_3 _ _ _) (meets_dict_get_default (bH X.prog X.w) a (a5F ry) hd r) ⟨_,dd.mapOf,h _ _ (I.tok _) ?_⟩;rw[l];exact(rel.val k).getD rd
 .subst ey;cases(show u=bh.ref b from ry);obtain⟨z,hd,xs,rel,dd⟩:=a2L I.hok e;refine call_meetsIn PySem.F.slot_dict_get dd.typeIs PySem.F.entry_dict_get (PySem.F.args_dict_get_3 _ _ _) (meetsH_dict_get_default (zu (bH X.prog X.w)) a b hd r) ⟨vq hu,k,xs,yF I.hok eb,dd,h _ _ (I.tok _) ?_⟩;rw[l];exact(rel.val k).getD rd
end
noncomputable def aBM(td ty tx:TE):TE:=λσ H Q=>td σ H λx H1=>∃a,x=.ref a/\IsD H1 a/\ty σ H1 λy H2=>tx σ H2 λz H3=>∃o,yG H3 a y o/\Q (o.getD z) H3
section
variable{X:Cx}{ty:TE}
theorem anS(hu:X.A.units+1<kh)(ho:PE X o td)(he:PE X e ty)(hf:PE X f tx)(m:M2 X o "get" apos e f cpos):PE X (.Call (.Attribute o "get" apos) [e,f] [] cpos) (aBM td ty tx):=by
 intro pins s σ H Q I h _tk;refine wpAny_Call_method m.base m.few m.line PySem.F.plainAttrs_dict PySem.F.slot_dict_get PySem.F.type_dict_get (cL (ho pins s σ H _ I h) ?_);rintro u s1 ⟨x,H1,I1,rx,a,ex,d,q1⟩;subst ex;obtain rfl:u=bh.ref a:=rx;obtain⟨t1,t2,_⟩:=anR I1 d;refine⟨t1,t2,?_⟩;rw[m.trees]
 refine Calls.callWith_builtin rfl (Calls.evalArgs_plain (Calls.spliced_cons (cL (he pins s1 σ H1 _ I1 q1) λiv s2 ⟨y,H2,I2,ry,q2⟩ =>
  Calls.spliced_cons (cL (hf pins s2 σ H2 _ I2 q2) λfv s3 ⟨z,H3,I3,rz,ov,g,q3⟩=>Calls.spliced_nil ?_))))
 exact aBL hu I3 g ry rz λw' s4 I4 rw'=>⟨_,H3,I4,rw',q3⟩
end
section
end
section
end
end
end L2
namespace HT
open PySem PyProof.Rows
noncomputable def lexLt:List Int->List Int->Bool
 |[],[]=>ao
 |[],_::_=>ak
 |_::_,[]=>ao
 |x::xs,y::ys=>if x=y then lexLt xs ys else decide (x<y)
theorem rM(x y:Int)(xs ys:List Int):lexLt (x::xs) (y::ys)=if x=y then lexLt xs ys else decide (x<y):=rfl
theorem xK:lexLt [] []=ao:=rfl
theorem a5G(y:Int)(ys:List Int):lexLt [] (y::ys)=ak:=rfl
theorem a5H(x:Int)(xs:List Int):lexLt (x::xs) []=ao:=rfl
theorem anT(A:iw)(s:cj)(a:Int)(t:Tok)(c:Int)(u:Tok):∃e,SeqAt.EqAt A s (.int a t) (.int c u) e/\(e=ak↔a=c) :=
 ⟨(a==c),SeqAt.EqAt.int_int a t c u,by simp⟩
theorem a5I(A:iw)(s:cj)(a:Int)(t:Tok)(c:Int)(u:Tok)(prog:jt)(w:iy)(E:bh->cj->Prop)(Q:bh->cj->Prop)(h:Q (.bool (decide (a<c))) s) :
  cu (fj prog w) A (a1l .Lt (.int a t) (.int c u)) Q E s :=
 (PyProof.Rows.lt_int h:cu (fj prog w) A (jg .Lt (.int a t) (.int c u)) Q E s)
section
open PySem.SeqAt
open PySem.AutoSeq1 (wpAny_loadPart')
open PySem.MeetsSeq PySem.MeetsSeq2 PySem.MeetsSeq3
set_option tactic.hygienic true in
theorem a8L(l b:bx)(items items2:Array bh)(n n2:Nat)(dd dd2:Option bx)(sl sl2:Array (Option bh))(ns ms:List Int)(hi:a0d items.toList ns)(hj:a0d items2.toList ms) :
  Meets (Builtin.«tuple.__lt__» ⟨[.ref l,.ref b],[]⟩)
   (λ_ R s=>s.heap.get? l=aj {cls:=.type "tuple",dict:=dd,data:=.seq items n,slots:=sl}/\s.heap.get? b=aj {cls:=.type "tuple",dict:=dd2,data:=.seq items2 n2,slots:=sl2} /\
    R (.ok (.ret (.bool (lexLt ns ms)))) s) :=
 .of_wp λprog w A R s h=>by
  obtain⟨hp,g,d,tk,os⟩:=s;obtain⟨hl,hb,h⟩:=h;have f2:=AutoSeq1.sub_tuple_tuple;have z1:items.size=ns.length:=by rw[←hi.length];simp
  have z2:items2.size=ms.length:=by rw[←hj.length];simp
  wp_walk using wpAny_loadPart' hl,wpAny_loadPart' hb,wpAny_forIn_list _ (λrest b s'=>b.1=aq/\s'=⟨hp,g,d,tk,os⟩/\∃(vs ws:List bh)(ns' ms':List Int),rest=vs.zip ws /\
   a0d vs ns'/\a0d ws ms'/\ns'.length+items2.size=ms'.length+items.size/\R (.ok (.ret (.bool (lexLt ns' ms')))) ⟨hp,g,d,tk,os⟩) _
  case turn =>
   rintro⟨y,x⟩ rest b s' ⟨hb',rfl,vs,ws,ns',ms',hz,hvi,hwi,hlen,hR⟩;cases hvi with
   |nil=>rw[List.zip_nil_left]at hz;cases hz
   |cons a t aN0 =>
    cases hwi with
    |nil=>rw[List.zip_nil_right]at hz;cases hz
    |cons c u aN1 =>
     rw[List.zip_cons_cons]at hz;injection hz with hyx hrest;injection hyx with hy hx;subst hy hx;rw[rM]at hR;simp only[ug]at hlen;obtain⟨e,he,hiff⟩:=anT A.in1 ⟨hp,g,d,tk,os⟩ a t c u;refine au (he prog w _ _ ?_);cases e with
     |true =>
      rw[if_pos (hiff.mp rfl)]at hR
      wp_walk
      exact⟨rfl,rfl,_,_,_,_,hrest,aN0,aN1,by omega,hR⟩
     |false =>
      rw[if_neg (λq=>absurd (hiff.mpr q) ou)]at hR;have hri:=a5I A.in1 ⟨hp,g,d,tk,os⟩ a t c u prog w
      wp_walk using hri
      exact⟨_,rfl,by simpa using hR⟩
  case fin =>
   rintro⟨b1,b2⟩ s' ⟨hb',rfl,vs,ws,ns',ms',hz,hvi,hwi,hlen,hR⟩;simp only at hb';subst hb'
   have hv:lexLt ns' ms'=decide (items.size<items2.size):=by
    cases hvi with
    |nil =>
     cases hwi with
     |nil =>
      simp only[a2m]at hlen;rw[xK];exact(decide_eq_false (by omega)).symm
     |cons c u hw =>
      simp only[a2m,ug]at hlen;rw[a5G];exact(decide_eq_true (by omega)).symm
    |cons a t hv =>
     cases hwi with
     |nil =>
      simp only[a2m,ug]at hlen;rw[a5H];exact(decide_eq_false (by omega)).symm
     |cons c u hw =>
      rw[List.zip_cons_cons]at hz;cases hz
   rw[hv]at hR
   wp_walk
   exact⟨_,rfl,by simpa[Builtin.Tuple.tupleCompareSizes]using hR⟩
  case h =>
   exact⟨rfl,rfl,items.toList,items2.toList,ns,ms,rfl,hi,hj,by omega,h⟩
end
variable{b sl:bx}
section
variable{prog:jt}{w:iy}{A:iw}{E:bh->cj->Prop}{s:cj}
theorem agK{items items2:Array bh}{ns:List Int}(hl:IsTup s.heap l items)(hb:IsTup s.heap b items2)(hi:a0d items.toList ns)(hj:a0d items2.toList ms)
  (hu:A.units<kh)(h:Q (.bool (lexLt ns ms)) s):cu (fj prog w) A (jg .Lt (.ref l) (.ref b)) Q E s:=by
 obtain⟨⟨cls,dd,data,sl⟩,ho,hc,n,hd⟩:=id hl;obtain⟨⟨cls2,dd2,data2,sl2⟩,ho2,hc2,n2,hd2⟩:=id hb;simp only at hc hd hc2 hd2;subst hc hd hc2 hd2
 exact richCompare_meets_room (op:=.Lt) ⟨_,ho,rfl⟩ ⟨_,ho2,rfl⟩ PySem.F.slot_tuple_lt PySem.F.entry_tuple_lt (PySem.F.args_tuple_lt_2 _ _) (a8L l b items items2 n n2 dd dd2 sl sl2 ns ms hi hj)
  ⟨ho,ho2,show bh.bool (lexLt ns ms)≠bh.notImplemented/\Q (.bool (lexLt ns ms)) s from⟨(λx=>nomatch x),h⟩⟩ hu
theorem auJ{t:bx}{vs ws:List bh}(ht:IsTup s.heap t vs.toArray)(hb:IsTup s.heap b ws.toArray)(hv:vs≠[])
  (h1:ws=[]->Q (.ref t) s)(h2:ws≠[]->Q (.ref s.heap.objs.size) {s with heap:=s.heap.push {cls:=.type "tuple",data:=.seq (vs++ws).toArray}})
  (hsz:vs.length+ws.length<=dg):cu (fj prog w) A (wg .Add (.ref t) (.ref b)) Q E s:=by
 obtain⟨⟨cls,dd,data,sl⟩,ho,hc,n,hd⟩:=id ht;obtain⟨⟨cls2,dd2,data2,sl2⟩,ho2,hc2,n2,hd2⟩:=id hb;simp only at hc hd hc2 hd2;subst hc hd hc2 hd2;have e:vs.toArray++ws.toArray=(vs++ws).toArray:=by simp
 by_cases hw:ws=[]
 .exact concat_meets ⟨_,ho,rfl⟩ ⟨_,ho2,rfl⟩ noFill_tuple_add seq_tuple_add PySem.F.slot_tuple_add PySem.F.entry_tuple_add (PySem.F.args_tuple_add_2 _ _)
   (tuple_addW1 t b vs.toArray ws.toArray n n2 dd dd2 sl sl2 (by simpa using hv) (by simp[hw])) ⟨ho,ho2,h1 hw⟩
 .refine concat_meets ⟨_,ho,rfl⟩ ⟨_,ho2,rfl⟩ noFill_tuple_add seq_tuple_add PySem.F.slot_tuple_add PySem.F.entry_tuple_add (PySem.F.args_tuple_add_2 _ _)
   (tuple_addW2 t b vs.toArray ws.toArray n n2 dd dd2 sl sl2 (by simpa using hv) (by simpa using hw) (by rw[dj,dj];exact hsz)) ⟨ho,ho2,?_⟩
  rw[e];exact h2 hw
noncomputable def jP(n d:Nat):Option Int->Nat
 |none=>d
 |some v=>if v<0 then(v+(n:Int)).toNat else min v.toNat n
theorem ad9(n d:Nat):jP n d aq=d:=rfl
theorem aiG(n d k:Nat):jP n d (aj (k:Int))=min k n:=by
 show(if(k:Int)<0 then((k:Int)+(n:Int)).toNat else min (k:Int).toNat n)=min k n;rw[if_neg (by omega),ux]
theorem aBN(n d:Nat)(hd:d<=n)(o:Option Int):jP n d o<=n:=by
 cases o with
 |none=>exact hd
 |some v =>
  show(if v<0 then(v+(n:Int)).toNat else min v.toNat n)<=n;by_cases hv:v<0
  .rw[if_pos hv];omega
  .rw[if_neg hv];exact Nat.min_le_right _ _
theorem aiH(v:Int)(n d:Nat):(if v<0 then max (v+(n:Int)) 0 else min v (n:Int))=((jP n d (aj v):Nat):Int):=by
 show(if v<0 then max (v+(n:Int)) 0 else min v (n:Int))=(((if v<0 then(v+(n:Int)).toNat else min v.toNat n):Nat):Int);by_cases hv:v<0
 .simp only[if_pos hv];omega
 .simp only[if_neg hv];omega
theorem agL(lo hi:Option Int)(n:Nat):Builtin.Slice.sliceAdjust lo hi 1 (n:Int)=(((jP n 0 lo:Nat):Int),((jP n n hi:Nat):Int)):=by
 have h1:¬ ((1:Int)<0):=by omega
 unfold Builtin.Slice.sliceAdjust;simp only[h1,if_false];refine Prod.ext ?_ ?_
 .cases lo with
  |none=>rfl
  |some v=>exact aiH v n 0
 .cases hi with
  |none=>rfl
  |some v=>exact aiH v n n
theorem agM(i j:Nat):Builtin.Slice.slicePlaces (i:Int) (j:Int) 1=j - i:=by
 unfold Builtin.Slice.slicePlaces;have h1:(1:Int)>0:=by omega
 simp only[h1,if_true,Int.ediv_one];split<;>omega
theorem a5J(p:IsPart v o)(h:Q o s):cu (fj prog w) A (Builtin.Slice.slicePartIndex v) Q E s:=by
 cases p with
 |none=>exact slicePart_none h
 |int i t=>exact slicePart_int h
theorem a1G{vl vu:bh}{lo hi:Option Int}{n:Nat}{Q:Int×Int×Nat->cj->Prop}(hs:s.heap.IsSliceOf sl vl vu .none)(pl:IsPart vl lo)(pu:IsPart vu hi)
  (h:Q (((jP n 0 lo:Nat):Int),1,jP n n hi - jP n 0 lo) s):cu (fj prog w) A (Builtin.Slice.sliceApplied (.ref sl) (pure (n:Int))) Q E s:=by
 obtain⟨os,hos,hcs,hds⟩:=id hs;unfold Builtin.Slice.sliceApplied Builtin.Slice.sliceFields;refine au (au (oh hos hds (x:=vl) rfl (au (oh hos hds (x:=vu) rfl (au (oh hos hds (x:=.none) rfl (dh ?_)))))));refine au (slicePart_none ?_);show cu _ _ (if((1:Int)==0)=ak then _ else _) _ _ s;rw[if_neg (by decide)];refine au (a5J pl (au (a5J pu (au (dh ?_)))));show cu _ _ (match Builtin.Slice.sliceAdjust lo hi 1 (n:Int)with|(lo,hi)=>pure (lo,(1:Int),Builtin.Slice.slicePlaces lo hi 1)) _ _ s;rw[agL lo hi n];show cu _ _ (pure (((jP n 0 lo:Nat):Int),(1:Int),Builtin.Slice.slicePlaces ((jP n 0 lo:Nat):Int) ((jP n n hi:Nat):Int) 1)) _ _ s;rw[agM];exact dh h
theorem anU(xs:Array bh)(i k:Nat):((jy k).filterMap λ(m:Nat)=>xs[((i:Int)+(m:Int)*1).toNat]?).toArray=((xs.toList.drop i).take k).toArray:=by
 have e:(λ(m:Nat)=>xs[((i:Int)+(m:Int)*1).toNat]?)=λm=>xs[i+m]?:=by
  funext m;have:((i:Int)+(m:Int)*1).toNat=i+m:=by omega
  rw[this]
 rw[e];have:=pick_run xs i k;rw[List.filterMap_map]at this;have e2:((λx=>xs[x]?)∘λx=>i+x)=λm=>xs[i+m]?:=rfl;rw[e2]at this;rw[this]
theorem zB{t:bx}{items:Array bh}{vl vu:bh}{lo hi:Option Int}{Q:bh->cj->Prop}(ht:IsTup s.heap t items)(hs:s.heap.IsSliceOf sl vl vu .none)(pl:IsPart vl lo)(pu:IsPart vu hi)
  (hw:¬ (jP items.size 0 lo=0/\jP items.size items.size hi=items.size))
  (h:Q (.ref s.heap.objs.size) {s with heap:=s.heap.push {cls:=.type "tuple",data:=.seq ((items.toList.drop (jP items.size 0 lo)).take (jP items.size items.size hi - jP items.size 0 lo)).toArray}})
  (hsz:items.size<=dg):cu (fj prog w) A (getItem (.ref t) (.ref sl)) Q E s:=by
 have aiI:sizeOk (.seq ((items.toList.drop (jP items.size 0 lo)).take (jP items.size items.size hi - jP items.size 0 lo)).toArray):=by
  show((items.toList.drop (jP items.size 0 lo)).take (jP items.size items.size hi - jP items.size 0 lo)).toArray.size<=dg;rw[dj,wj,List.length_drop,a0a];omega
 have hj:jP items.size items.size hi<=items.size:=aBN _ _ (dw _) hi;obtain⟨os,hos,hcs,hds⟩:=id hs;have hTs:s.TypeIs (.ref sl) "slice":=⟨os,hos,hcs⟩;unfold getItem
 try with_reducible refine qb ?_
 first|refine au (dh ?_)|skip
 refine au (wpAny_sequenceKey ht.typeIs (by decide) ?_)
 refine au (yx (name:=Str.ofString "__getitem__") ht.typeIs PyProof.Rows.slot_tuple_getitem
  (a0b PyProof.Rows.slot_tuple_getitem ht.typeIs entry_tuple_getitem ?_ (args_tuple_getitem _ _)))
 show cu _ _ (Builtin.Tuple.tupleItemsOf (.ref t) >>= _) _ _ s;refine au (tupleItemsOf_ ht ?_);refine au (wpAny_typeOf hTs ?_);rw[if_pos (by decide)];refine au (a1G hs pl pu ?_)
 have hno:¬ ((((jP items.size 0 lo:Nat):Int)==0&&(1:Int)==1&&(jP items.size items.size hi - jP items.size 0 lo)==items.size)=ak):=by
  intro q;rw[bw,bw]at q;have q1:((jP items.size 0 lo:Nat):Int)=0:=eq_of_beq q.1.1;have q2:jP items.size items.size hi - jP items.size 0 lo=items.size:=eq_of_beq q.2;exact hw ⟨by omega,by omega⟩
 show cu _ _ (if(((jP items.size 0 lo:Nat):Int)==0&&(1:Int)==1&&(jP items.size items.size hi - jP items.size 0 lo)==items.size)=ak then _ else _) _ _ s;rw[if_neg hno,anU]
 first
  |exact au (m:=Builtin.Tuple.tupleExact _) (ni (dh ⟨_,rfl,dh h⟩) aiI)
  |exact au (m:=Builtin.Tuple.tupleExact _) (ni (au (dh (dh ⟨_,rfl,dh h⟩))) aiI)
  |exact au (au (m:=Builtin.Tuple.tupleExact _) (ni (dh (dh ⟨_,rfl,dh h⟩)) aiI))
  |exact au (au (m:=Builtin.Tuple.tupleExact _) (ni (dh ⟨_,rfl,dh h⟩) aiI))
end
end HT
namespace L2
open PySem PySem.Spec PyProof.Rows
section
abbrev TO:=St->Hp->(Option Int->Hp->Prop)->Prop
noncomputable def PO(X:Cx)(e:Option jf)(t:TO):Prop :=
 ∀(pins:List (bx×Obj))(s:cj)(σ:St)(H:Hp)(Q:Option Int->Hp->Prop),Inv X pins σ H s->t σ H Q ->
  [Tk X.need s]->cu (fj X.prog X.w) X.A (evalPart e X.env) (λu s'=>∃o H',Inv X pins σ H' s'/\IsPart u o/\Q o H') X.xe s
noncomputable def auK:TO:=λ_ H Q=>Q aq H
noncomputable def aHD(t:TE):TO:=λσ H Q=>t σ H λx H1=>∃i,x=.int i/\Q (aj i) H1
theorem intsAre_of{ns:List Int}:∀{us:List bh},Vals (ns.map V.int) us->a0d us ns:=by
 induction ns with
 |nil=>intro us r;rw[a2n]at r;cases r;exact .nil
 |cons n ns ih =>
  intro us r;rw[qd]at r;cases r with
  |cons r1 r2 =>
   obtain⟨t,e⟩:=r1;subst e;exact .cons n t (ih r2)
section
variable{X:Cx}{te:TE}{lo hi:Option jf}{tl th:TO}{pos:Pos}
theorem auL:PO X aq auK:=by
 intro pins s σ H Q I h _tk;rw[evalPart_none];exact dh ⟨aq,H,I,.none,h⟩
theorem auM(h:PE X e te):PO X (aj e) (aHD te):=by
 intro pins s σ H Q I hw;rw[evalPart_some];refine cL (h pins s σ H _ I hw) ?_;rintro u s1 ⟨x,H1,I1,r1,q1⟩;obtain⟨i,rfl,q⟩:=q1;obtain⟨t,rfl⟩:=r1;exact⟨aj i,H1,I1,.int i t,q⟩
noncomputable def SlR(X:Cx)(r:V->Option Int->Option Int->Hp->VK->Prop):Prop :=
 ∀(pins:List (bx×Obj))(s:cj)(σ:St)(H:Hp)(x:V)(v vl vu:bh)(lo hi:Option Int)(sl:bx)(Q:VK),Inv X pins σ H s->RelV x v->s.heap.IsSliceOf sl vl vu .none->IsPart vl lo->IsPart vu hi->r x lo hi H Q ->
  ∃T id,typeLookup (.type T) "__getitem__"=pure (aj (.builtin id))/\s.TypeIs v T/\cu (fj X.prog X.w) X.A (getItem v (.ref sl)) (EP X pins σ Q) X.xe s
theorem SlR.or(h:SlR X r)(h':SlR X r'):SlR X (λx lo hi H Q=>r x lo hi H Q∨r' x lo hi H Q):=by
 intro pins s σ H x v vl vu lo hi sl Q I rx hs pl pu q;rcases q with q|q
 .exact h pins s σ H x v vl vu lo hi sl Q I rx hs pl pu q
 .exact h' pins s σ H x v vl vu lo hi sl Q I rx hs pl pu q
noncomputable def tSl(r:V->Option Int->Option Int->Hp->VK->Prop)(te:TE)(tl th:TO):TE:=λσ H Q=>te σ H λx H1=>tl σ H1 λl H2=>th σ H2 λu H3=>r x l u H3 Q
theorem anV(hr:SlR X r)(he:PE X e te)(hl:PO X lo tl)(hu:PO X hi th):PE X (.Subscript e (.Slice lo hi aq p2) pos) (tSl r te tl th):=by
 intro pins s σ H Q I h _tk;refine Subscript_ (cL (he pins s σ H _ I h) ?_);rintro v s1 ⟨x,H1,I1,r1,q1⟩;refine wpAny_Slice (cL (hl pins s1 σ H1 _ I1 q1) λvl s2 ⟨l,H2,I2,pl,q2⟩=>cL (hu pins s2 σ H2 _ I2 q2) ?_);rintro vu s3 ⟨u,H3,I3,pu,q3⟩;rw[evalPart_none];refine dh ?_;have I4:Inv X pins σ H3 {s3 with heap:=s3.heap.push {cls:=.type "slice",data:=.fields #[vl,vu,.none]}}:=I3.kept (t':=s3.toks) λb ob q=>cg _ q;obtain⟨T,id,hT,ht,hg⟩:=hr pins {s3 with heap:=s3.heap.push {cls:=.type "slice",data:=.fields #[vl,vu,.none]}} σ H3 x v vl vu l u s3.heap.objs.size Q I4 r1 (Heap.IsSliceOf.new ..) pl pu q3;show cu (fj X.prog X.w) X.A (subscriptTail e (.Slice lo hi aq p2) v (.ref s3.heap.objs.size)) (EP X pins σ Q) X.xe {s3 with heap:=s3.heap.push {cls:=.type "slice",data:=.fields #[vl,vu,.none]}};exact tail_any (ops:=[.ref s3.heap.objs.size,v]) ht hT hg (by with_unfolding_all rfl)
noncomputable def a8M(xs:List V)(lo hi:Option Int):List V:=(xs.drop (HT.jP xs.length 0 lo)).take (HT.jP xs.length xs.length hi - HT.jP xs.length 0 lo)
theorem a2M(xs:List V)(lo hi:Option Int):(a8M xs lo hi).length<=xs.length:=by
 unfold a8M;rw[wj,List.length_drop];omega
noncomputable def aN2(K:ig):V->Option Int->Option Int->Hp->VK->Prop:=λx lo hi H Q=>∃a xs,x=.ref a/\oH K H a xs /\
 ¬ (HT.jP xs.length 0 lo=0/\HT.jP xs.length xs.length hi=xs.length)/\∀p,H p=aq->Q (.ref p) (upd H p (.tup (a8M xs lo hi)))
theorem aBO:SlR X (aN2 X.K):=by
 intro pins s σ H x v vl vu lo hi sl Q I rx hs pl pu h;obtain⟨a,xs,rfl,hx,hw,q⟩:=h;cases rx;obtain⟨its,r,ht,hz⟩:=I.tuple hx;have hlen:its.toArray.size=xs.length:=by rw[dj];exact r.length.symm
 refine⟨"tuple",_,PyProof.Rows.slot_tuple_getitem.lookup,ht.typeIs,?_⟩;refine HT.zB ht hs pl pu (by rw[hlen];exact hw) ?_ (by rw[hlen];exact hz);rw[hlen];refine⟨.ref s.heap.objs.size,_,I.laid (t':=s.toks) (o:=.tup (a8M xs lo hi)) (λb ob q=>cg _ q) (dw _) ?_,rfl,q _ (I.hok.fresh (dw _))⟩;exact⟨qz (a2M xs lo hi) hz,_,(r.drop (HT.jP xs.length 0 lo)).take (HT.jP xs.length xs.length hi - HT.jP xs.length 0 lo),IsTup.new _ _⟩
noncomputable def aHE(K:ig):R2:=λx y H Q=>∃a b xs ys,x=.ref a/\y=.ref b/\oH K H a xs/\oH K H b ys/\xs≠[]/\xs.length+ys.length<=dg /\
 (ys=[]->Q (.ref a) H)/\(ys≠[]->∀p,H p=aq->Q (.ref p) (upd H p (.tup (xs++ys))))
theorem Vals.zE(r:Vals xs us):us=[]↔xs=[]:=by
 cases r with
 |nil=>simp
 |cons _ _=>simp
theorem auN:pJ X (wg .Add) (aHE X.K):=by
 intro pins s σ H x y v u Q I rx ry h;obtain⟨a,b,xs,ys,rfl,rfl,ha,hb,hx,hz,q1,q2⟩:=h;cases rx;cases ry;obtain⟨its,r1,p1,_⟩:=I.tuple ha;obtain⟨its2,r2,p2,_⟩:=I.tuple hb;refine HT.auJ p1 p2 (λz=>hx (r1.zE.mp z)) (λz=>⟨.ref a,H,I,rfl,q1 (r2.zE.mp z)⟩) (λz=>?_) (by rw[←r1.length,←r2.length];exact hz);refine⟨.ref s.heap.objs.size,_,I.laid (t':=s.toks) (o:=.tup (xs++ys)) (λb ob q=>cg _ q) (dw _) ?_,rfl,q2 (λw=>z (r2.zE.mpr w)) _ (I.hok.fresh (dw _))⟩;exact⟨by rw[vp];exact hz,_,r1.append r2,IsTup.new _ _⟩
end
end
variable{n:Nat}{i:Int}{pins:List (bx×Obj)}{p:bx}{its its':List bh}{x:V}
section
noncomputable def ixN(n:Nat)(i:Int):Option Nat:=if 0<=i then(if i<n then aj i.toNat else aq)else if -(n:Int)<=i then aj (i+n).toNat else aq
noncomputable def zF{α:Type}(xs:List α)(i:Int):Option α:=(ixN xs.length i).bind λj=>xs[j]?
theorem aiJ{j:Nat}(h:ixN n i=aj j):seqIndex? i n=aj j/\j<n/\-(n:Int)<=i/\i<n:=by
 unfold ixN at h;by_cases h0:0<=i
 .rw[if_pos h0]at h;by_cases h1:i<n
  .rw[if_pos h1]at h;have e:i.toNat=j:=jk.inj h;exact⟨by rw[seqIndex_of h0 h1,e],by omega,by omega,h1⟩
  .rw[if_neg h1]at h;cases h
 .rw[if_neg h0]at h;by_cases h1:-(n:Int)<=i
  .rw[if_pos h1]at h;have e:(i+n).toNat=j:=jk.inj h;exact⟨by rw[seqIndex_neg (by omega) h1,e],by omega,h1,by omega⟩
  .rw[if_neg h1]at h;cases h
theorem ab3{α:Type}{xs:List α}{v:α}(h:zF xs i=aj v):∃j,seqIndex? i xs.length=aj j/\xs[j]?=aj v/\j<xs.length/\-(xs.length:Int)<=i/\i<xs.length:=by
 unfold zF at h;cases e:ixN xs.length i with
 |none=>rw[e]at h;cases h
 |some j =>
  rw[e]at h;obtain⟨h1,h2,h3,h4⟩:=aiJ e;exact⟨j,h1,h,h2,h3,h4⟩
def ab4(b:jf):Prop:=∀o i,subscripted b ao o i=operate [o,i] (getItem o i)
noncomputable def IxR(X:Cx)(r:R2):Prop :=
 ∀(value slice:jf)(pins:List (bx×Obj))(s:cj)(σ:St)(H:Hp)(x y:V)(v u:bh)(Q:VK),Inv X pins σ H s->RelV x v->RelV y u->r x y H Q ->
  subscripted slice ao v u=operate [v,u] (getItem v u)->cu (fj X.prog X.w) X.A (subscriptTail value slice v u) (EP X pins σ Q) X.xe s
noncomputable def MtR(X:Cx)(id:String)(r:V->List V->Hp->VK->Prop):Prop :=
 ∀(pins:List (bx×Obj))(s:cj)(σ:St)(H:Hp)(x:V)(xs:List V)(v:bh)(us:List bh)(Q:VK),Inv X pins σ H s->RelV x v->Vals xs us->r x xs H Q ->
  cu (fj X.prog X.w) X.A (call (.builtin id) (v::us)) (EP X pins σ Q) X.xe s
section
variable{X:Cx}{a b:jf}{pos:Pos}
theorem IxR.or(h:IxR X r)(h':IxR X r'):IxR X (λx y H Q=>r x y H Q∨r' x y H Q):=by
 intro value slice pins s σ H x y v u Q I rx ry q hs;rcases q with q|q
 .exact h value slice pins s σ H x y v u Q I rx ry q hs
 .exact h' value slice pins s σ H x y v u Q I rx ry q hs
theorem MtR.or{id:String}(h:MtR X id r)(h':MtR X id r'):MtR X id (λx xs H Q=>r x xs H Q∨r' x xs H Q):=by
 intro pins s σ H x xs v us Q I rx rs q;rcases q with q|q
 .exact h pins s σ H x xs v us Q I rx rs q
 .exact h' pins s σ H x xs v us Q I rx rs q
theorem aHG(hr:IxR X r)(ha:PE X a ta)(hb:PE X b tb)(hs:ab4 b):PE X (.Subscript a b pos) (tOp r ta tb):=by
 intro pins s σ H Q I h _tk;exact Subscript_ (aB5 ha hb I h λv u s2 x y H2 I2 rx ry q=>hr a b pins s2 σ H2 x y v u Q I2 rx ry q (hs _ _))
noncomputable def aHH(K:ig):R2:=λx y H Q=>∃p xs i v,x=.ref p/\y=.int i/\pO K H p xs/\zF xs i=aj v/\Q v H
noncomputable def aHI(K:ig):R2:=λx y H Q=>∃p xs i v,x=.ref p/\y=.int i/\oH K H p xs/\zF xs i=aj v/\Q v H
noncomputable def aHJ:R2:=λx y H Q=>∃z i c,x=.str z/\y=.int i/\z.length<=dg/\zF z.cps.toList i=aj c/\Q (.str ⟨#[c]⟩) H
theorem auP:IxR X (aHH X.K):=by
 intro value slice pins s σ H x y v u Q I rx ry h hs;obtain⟨p,xs,i,z,rfl,rfl,hq,he,q⟩:=h;cases rx;obtain⟨t,rfl⟩:=ry;obtain⟨its,r,pl,hz⟩:=I.list hq;obtain⟨j,h1,h2,h3,h4,h5⟩:=ab3 he;obtain⟨w,ew,rw'⟩:=r.get h2;have hl:=r.length;have hn:=a1D;have fin:EP X pins σ Q w s:=⟨z,H,I,rw',q⟩;by_cases h0:0<=i
 .have hj:i.toNat=j:=by
   rw[seqIndex_of h0 h5]at h1;exact jk.inj h1
  exact item_listR pl.isList h0 (by omega) (by rw[hj];simpa using ew) fin hs
 .have hj:(i+(its.toArray.size:Int)).toNat=j:=by
   rw[seqIndex_neg (by omega) h4]at h1;rw[dj,←hl];exact jk.inj h1
  exact subscriptTail_builtinR (x:=w) pl.isList.typeIs slot_list_getitem.lookup
   (wpAny_getItem_list_neg (Q:=λr s'=>r=w/\EP X pins σ Q r s') pl.isList (by omega) (by rw[dj]<;>omega) (by omega) (by rw[hj];simpa using ew) ⟨rfl,fin⟩) hs
theorem aBP:IxR X (aHI X.K):=by
 intro value slice pins s σ H x y v u Q I rx ry h hs;obtain⟨p,xs,i,z,rfl,rfl,hq,he,q⟩:=h;cases rx;obtain⟨t,rfl⟩:=ry;obtain⟨its,r,pl,hz⟩:=I.tuple hq;obtain⟨j,h1,h2,h3,h4,h5⟩:=ab3 he;obtain⟨w,ew,rw'⟩:=r.get h2;have hl:=r.length;have hn:=a1D;have fin:EP X pins σ Q w s:=⟨z,H,I,rw',q⟩
 exact subscriptTail_builtinR (x:=w) pl.typeIs slot_tuple_getitem.lookup
  (getItem_tuple (j:=j) (Q:=λr s'=>r=w/\EP X pins σ Q r s') pl (by omega) (by omega) (by rw[dj,←hl];exact h1) (by simpa using ew) ⟨rfl,fin⟩) hs
theorem aBQ:IxR X aHJ:=by
 intro value slice pins s σ H x y v u Q I rx ry h hs;obtain⟨z,i,c,rfl,rfl,hz,he,q⟩:=h;obtain⟨t,rfl⟩:=rx;obtain⟨t',rfl⟩:=ry;obtain⟨j,h1,h2,h3,h4,h5⟩:=ab3 he;have hl:z.cps.toList.length=z.length:=by simp[Str.length]
 rw[hl]at h1 h4 h5;have hn:=a1D
 exact tail_any (typeIs_str s z t) slot_str_getitem.lookup (getItem_str (c:=c) (by
  have e1:decide (i< -(2^63:Int))=ao:=decide_eq_false (by omega);have e2:decide (i≥2^63)=ao:=decide_eq_false (by omega);rw[e1,e2,Bool.or_false]) (by rw[h1];simpa using h2) ⟨.str ⟨#[c]⟩,H,I.tok _,⟨_,rfl⟩,q⟩) hs
noncomputable def rIx(K:ig):R2:=λx y H Q=>aHH K x y H Q∨aHI K x y H Q∨aHJ x y H Q
theorem aBR:IxR X (rIx X.K):=auP.or (aBP.or aBQ)
theorem agN(its:List bh)(n j:Nat)(u:bh):Obj.mapSeq (·.setIfInBounds j u) {cls:=.type "list",data:=.seq its.toArray n}={cls:=.type "list",data:=.seq (its.set j u).toArray n}:=by
 simp[Obj.mapSeq]
theorem Inv.lst{s:cj}{xs:List V}(I:Inv X pins σ H s)(h:H p=aj (.lst xs)) :
  ∃(its:List bh)(n:Nat),Vals xs its/\s.heap.get? p=aj {cls:=.type "list",data:=.seq its.toArray n}/\xs.length<=dg:=by
 obtain⟨z,its,n,r,e⟩:=I.hok p _ h;exact⟨its,n,r,e,z⟩
theorem Inv.aBS{s:cj}{ys:List V}{n':Nat}(I:Inv X pins σ H s)(h:H p=aj (.lst xs))
  (ho:s.heap.get? p=aj {cls:=.type "list",data:=.seq its.toArray n})(hf:f {cls:=.type "list",data:=.seq its.toArray n}={cls:=.type "list",data:=.seq its'.toArray n' })(r:Vals ys its')(hz:ys.length<=dg)(t:Nat) :
  Inv X pins σ (upd H p (.lst ys)) {s with heap:=s.heap.update p f,toks:=t}:=by
 have e:(s.heap.update p f).get? p=aj {cls:=.type "list",data:=.seq its'.toArray n' }:=by
  rw[vg f ho (by rw[hf]<;>rfl),hf]
 refine I.write (x:=p) (e:=p) (by rw[h];trivial) (.inl rfl) (λb u hb q=>(mz _ _ (Ne.symm hb)).trans q) ⟨_,e⟩ ?_;exact⟨hz,its',n',r,e⟩
noncomputable def aHK:V->V->V->Hp->(Hp->Prop)->Prop:=λo i v H Q=>∃p xs k j,o=.ref p/\i=.int k/\H p=aj (.lst xs)/\ixN xs.length k=aj j/\Q (upd H p (.lst (xs.set j v)))
theorem set_list:aGX X aHK:=by
 intro pins s σ H o i v ov iv u Q I ro ri rv h;obtain⟨p,xs,k,j,rfl,rfl,hp,hj,q⟩:=h;cases ro;obtain⟨t,rfl⟩:=ri;obtain⟨its,n,r,ho,hz⟩:=I.lst hp;obtain⟨h1,h2,h3,h4⟩:=aiJ hj;have hl:=r.length;have hn:=a1D
 have I':Inv X pins σ (upd H p (.lst (xs.set j v))) {s with heap:=s.heap.update p (Obj.mapSeq (·.setIfInBounds j u))} :=
  I.aBS hp ho (agN its n j u) (r.set rv j) (by rw[List.length_set];exact hz) s.toks
 by_cases h0:0<=k
 .have hk:k.toNat=j:=by
   rw[seqIndex_of h0 h4]at h1;exact jk.inj h1
  exact PySem.W.ki_setAt ho h0 (by omega) (by rw[dj,←hl];exact h4) (by rw[hk];exact⟨_,I',q⟩)
 .have hk:(k+(its.toArray.size:Int)).toNat=j:=by
   rw[seqIndex_neg (by omega) h3]at h1;rw[dj,←hl];exact jk.inj h1
  exact PySem.W.ki_setBack ho (by omega) (by rw[dj,←hl];exact h3) (by omega) (by rw[hk];exact⟨_,I',q⟩)
theorem ab5(lo hi:Option Int)(n:Nat):(a1m lo hi aq n).1=((HT.jP n 0 lo:Nat):Int)/\(a1m lo hi aq n).2.1=((HT.jP n n hi:Nat):Int)/\(a1m lo hi aq n).2.2=1:=by
 refine⟨?_,?_,rfl⟩
 .cases lo with
  |none=>simp[a1m,HT.jP]
  |some i =>
   simp only[a1m,HT.jP,Option.getD_none,show(1:Int)>0 by decide,if_true];by_cases h:i<0
   .simp only[h,if_true]<;>omega
   .simp only[h,if_false]<;>omega
 .cases hi with
  |none=>simp[a1m,HT.jP]
  |some i =>
   simp only[a1m,HT.jP,Option.getD_none,show(1:Int)>0 by decide,if_true];by_cases h:i<0
   .simp only[h,if_true]<;>omega
   .simp only[h,if_false]<;>omega
theorem a8N(its:List bh)(lo hi:Option Int):slicePick its.toArray lo hi aq=((its.drop (HT.jP its.length 0 lo)).take (HT.jP its.length its.length hi - HT.jP its.length 0 lo)).toArray:=by
 obtain⟨h1,h2,h3⟩:=ab5 lo hi its.toArray.size;unfold slicePick;rw[h1,h2,h3];simp only[sliceRange_one,pick_run,dj]<;>rfl
noncomputable def aN3(K:ig):V->Option Int->Option Int->Hp->VK->Prop:=λx lo hi H Q=>∃a xs,x=.ref a/\pO K H a xs/\∀p,H p=aq->Q (.ref p) (upd H p (.lst (a8M xs lo hi)))
theorem auQ:SlR X (aN3 X.K):=by
 intro pins s σ H x v vl vu lo hi sl Q I rx hs pl pu h;obtain⟨a,xs,rfl,hx,q⟩:=h;cases rx;obtain⟨its,r,ht,hz⟩:=I.list hx;have hlen:=r.length;refine⟨"list",_,slot_list_getitem.lookup,ht.isList.typeIs,?_⟩;refine wpAny_getItem_list_slice ht.isList hs pl pu .none (by simp) ?_ (by rw[dj]<;>omega);rw[a8N,←hlen];refine⟨.ref s.heap.objs.size,_,I.laid (t':=s.toks) (o:=.lst (a8M xs lo hi)) (λb ob q=>cg _ q) (dw _) ?_,rfl,q _ (I.hok.fresh (dw _))⟩;exact⟨qz (a2M xs lo hi) hz,_,0,(r.drop (HT.jP xs.length 0 lo)).take (HT.jP xs.length xs.length hi - HT.jP xs.length 0 lo),gV _ rfl⟩
noncomputable def tK:V->Bool
 |.non=>ak
 |.bl _=>ak
 |.int _=>ak
 |.str _=>ak
 |_=>ao
noncomputable def eqV:V->V->Bool
 |.non,.non=>ak
 |.bl a,.bl b=>a==b
 |.bl a,.int b=>(if a then 1 else 0)==b
 |.int a,.bl b=>a==(if b then 1 else 0)
 |.int a,.int b=>a==b
 |.str a,.str b=>a==b
 |_,_=>ao
theorem a1H{A:iw}(ry:RelV y u)(rx:RelV x v)(fy:tK y=ak)(fx:tK x=ak):SeqAt.EqAt A s u v (eqV y x):=by
 cases y with
 |non =>
  cases ry;cases x with
  |non=>cases rx;exact SeqAt.EqAt.same _
  |bl b=>cases rx;exact SeqAt.EqAt.none_bool b
  |int b=>obtain⟨t,rfl⟩:=rx;exact SeqAt.EqAt.none_int b t
  |str b=>obtain⟨t,rfl⟩:=rx;exact SeqAt.EqAt.none_str b t
  |_=>exact absurd (show ao=ak from fx) ou
 |bl a =>
  cases ry;cases x with
  |non=>cases rx;exact SeqAt.EqAt.bool_none a
  |bl b=>cases rx;exact SeqAt.EqAt.bool_bool a b
  |int b=>obtain⟨t,rfl⟩:=rx;exact SeqAt.EqAt.bool_int a b t
  |str b=>obtain⟨t,rfl⟩:=rx;exact SeqAt.EqAt.bool_str a b t
  |_=>exact absurd (show ao=ak from fx) ou
 |int a =>
  obtain⟨t',rfl⟩:=ry;cases x with
  |non=>cases rx;exact SeqAt.EqAt.int_none a t'
  |bl b=>cases rx;exact SeqAt.EqAt.int_bool a t' b
  |int b=>obtain⟨t,rfl⟩:=rx;exact SeqAt.EqAt.int_int a t' b t
  |str b=>obtain⟨t,rfl⟩:=rx;exact SeqAt.EqAt.int_str a t' b t
  |_=>exact absurd (show ao=ak from fx) ou
 |str a =>
  obtain⟨t',rfl⟩:=ry;cases x with
  |non=>cases rx;exact SeqAt.EqAt.str_none a t'
  |bl b=>cases rx;exact SeqAt.EqAt.str_bool a t' b
  |int b=>obtain⟨t,rfl⟩:=rx;exact SeqAt.EqAt.str_int a t' b t
  |str b=>obtain⟨t,rfl⟩:=rx;exact SeqAt.EqAt.str_str a t' b t
  |_=>exact absurd (show ao=ak from fx) ou
 |_=>exact absurd (show ao=ak from fy) ou
noncomputable def eqU(x:V)(u:bh):Bool:=match u with
 |.none=>eqV .non x
 |.bool b=>eqV (.bl b) x
 |.int i _=>eqV (.int i) x
 |.str z _=>eqV (.str z) x
 |_=>ao
theorem anW(r:RelV y u)(f:tK y=ak):eqU x u=eqV y x:=by
 cases y with
 |non=>cases r;rfl
 |bl b=>cases r;rfl
 |int i=>obtain⟨t,rfl⟩:=r;rfl
 |str z=>obtain⟨t,rfl⟩:=r;rfl
 |_=>exact absurd (show ao=ak from f) ou
theorem zG{x:V}:∀{xs:List V}{us:List bh},Vals xs us->xs.all tK=ak->us.any (eqU x)=xs.any λy=>eqV y x
 |_,_,.nil,_=>rfl
 |y::xs,u::us,.cons r t,f=>by
  rw[wk,bw]at f;rw[a0v,a0v,anW r f.1,zG t f.2]
theorem uI{A:iw}{x:V}(rx:RelV x v)(fx:tK x=ak):∀{xs:List V}{us:List bh},Vals xs us->xs.all tK=ak->∀u∈us,SeqAt.EqAt A s u v (eqU x u)
 |_,_,.nil,_=>λu hu=>by cases hu
 |y::xs,u::us,.cons r t,f=>λu' hu=>by
  rw[wk,bw]at f;rcases jm.mp hu with rfl|hu
  .rw[anW r f.1];exact a1H r rx f.1 fx
  .exact uI rx fx t f.2 u' hu
noncomputable def inV(x:V)(xs:List V):Bool:=xs.any λy=>eqV y x
noncomputable def rIn(K:ig)(neg:Bool):R2:=λx y H Q=>∃p xs,y=.ref p/\(pO K H p xs∨oH K H p xs)/\tK x=ak/\xs.all tK=ak/\Q (.bl (if neg then !inV x xs else inV x xs)) H
theorem akW:pJ X (jg .In) (rIn X.K ao):=by
 intro pins s σ H x y v u Q I rx ry h;obtain⟨p,xs,rfl,hq,fx,fs,q⟩:=h;cases ry;rcases hq with hq|hq
 .obtain⟨its,r,pl,hz⟩:=I.list hq;refine SeqAt.in_listAt (eqU x) pl.isList (λw hw=>uI rx fx r fs w (by simpa using hw)) ⟨.bl _,H,I,rfl,?_⟩;rw[show its.toArray.any (eqU x)=its.any (eqU x) by simp,zG r fs];exact q
 .obtain⟨its,r,pl,hz⟩:=I.tuple hq;refine SeqAt.in_tupleAt (eqU x) pl (λw hw=>uI rx fx r fs w (by simpa using hw)) ⟨.bl _,H,I,rfl,?_⟩;rw[show its.toArray.any (eqU x)=its.any (eqU x) by simp,zG r fs];exact q
theorem ab6:pJ X (jg .NotIn) (rIn X.K ak):=by
 intro pins s σ H x y v u Q I rx ry h;obtain⟨p,xs,rfl,hq,fx,fs,q⟩:=h;cases ry;rcases hq with hq|hq
 .obtain⟨its,r,pl,hz⟩:=I.list hq;refine SeqAt.notIn_listAt (eqU x) pl.isList (λw hw=>uI rx fx r fs w (by simpa using hw)) ⟨.bl _,H,I,rfl,?_⟩;rw[show its.toArray.any (eqU x)=its.any (eqU x) by simp,zG r fs];exact q
 .obtain⟨its,r,pl,hz⟩:=I.tuple hq;refine SeqAt.notIn_tupleAt (eqU x) pl (λw hw=>uI rx fx r fs w (by simpa using hw)) ⟨.bl _,H,I,rfl,?_⟩;rw[show its.toArray.any (eqU x)=its.any (eqU x) by simp,zG r fs];exact q
theorem ab7:oJ X (.builtin "len") (λxs H Q=>∃p ys,xs=[.ref p]/\(pO X.K H p ys∨oH X.K H p ys)/\Q (.int ys.length) H):=by
 intro pins s σ H xs us Q I r h;obtain⟨p,ys,rfl,hq,q⟩:=h;obtain⟨u,rfl,rx⟩:=vals1 r;cases rx;have hn:=a1D;rcases hq with hq|hq
 .obtain⟨its,r',pl,hz⟩:=I.list hq;have hlen:=r'.length;exact Calls.call_len_list pl.isList (by simp only[dj]<;>omega) ⟨.int ys.length,H,I.tok _,⟨s.toks+1,by rw[dj,hlen]⟩,q⟩
 .obtain⟨its,r',pl,hz⟩:=I.tuple hq;have hlen:=r'.length;exact len_tuple pl (by simp only[dj]<;>omega) ⟨.int ys.length,H,I.tok _,⟨s.toks+1,by rw[dj,hlen]⟩,q⟩
theorem ab8:oJ X (.builtin "len") (λxs H Q=>∃z,xs=[.str z]/\z.length<=dg/\Q (.int z.length) H):=by
 intro pins s σ H xs us Q I r h;obtain⟨z,rfl,hz,q⟩:=h;obtain⟨u,rfl,t,rfl⟩:=vals1 r;have hn:=a1D;exact len_str (by omega) ⟨.int z.length,H,I.tok _,⟨_,rfl⟩,q⟩
theorem oJ.or(h:oJ X f r)(h':oJ X f r'):oJ X f (λxs H Q=>r xs H Q∨r' xs H Q):=by
 intro pins s σ H xs us Q I rs q;rcases q with q|q
 .exact h pins s σ H xs us Q I rs q
 .exact h' pins s σ H xs us Q I rs q
theorem ab9:oJ X (.type "list") (λxs H Q=>∃p ys,xs=[.ref p]/\(pO X.K H p ys∨oH X.K H p ys)/\∀l,H l=aq->Q (.ref l) (upd H l (.lst ys))):=by
 intro pins s σ H xs us Q I r h;obtain⟨p,ys,rfl,hq,q⟩:=h;obtain⟨u,rfl,rx⟩:=vals1 r;cases rx
 have fin:∀(its:List bh),Vals ys its->ys.length<=dg->∀(h':jj)(c':Nat),(∀b o',s.heap.get? b=aj o'->h'.get? b=aj o') ->
   h'.get? s.heap.objs.size=aj {cls:=.type "list",dict:=none,data:=.seq its.toArray c',slots:=#[]}->EP X pins σ Q (.ref s.heap.objs.size) {s with heap:=h' }:=λits r' hz h' c' kp e =>
  ⟨.ref s.heap.objs.size,_,I.laid (t':=s.toks) kp (dw _) (show dM X.prog X.w _ h' _ (.lst ys)from⟨hz,its,c',r',e⟩),rfl,q _ (I.hok.fresh (dw _))⟩
 rcases hq with hq|hq
 .obtain⟨its,r',pl,hz⟩:=I.list hq;have hlen:=r'.length;obtain⟨o,ho,hc,n,hd⟩:=pl.isList;exact call_list_seq p (.inl rfl) ho hc hd (λh' c' kp e=>fin its r' hz h' c' kp e) (by simp only[dj]<;>omega)
 .obtain⟨its,r',pl,hz⟩:=I.tuple hq;have hlen:=r'.length;obtain⟨o,ho,hc,n,hd⟩:=pl;exact call_list_seq p (.inr rfl) ho hc hd (λh' c' kp e=>fin its r' hz h' c' kp e) (by simp only[dj]<;>omega)
theorem a8O:oJ X (.type "tuple") (λxs H Q=>∃p ys,xs=[.ref p]/\((pO X.K H p ys/\∀l,H l=aq->Q (.ref l) (upd H l (.tup ys)))∨(oH X.K H p ys/\Q (.ref p) H))):=by
 intro pins s σ H xs us Q I r h;obtain⟨p,ys,rfl,h⟩:=h;obtain⟨u,rfl,rx⟩:=vals1 r;cases rx;rcases h with⟨hq,q⟩|⟨hq,q⟩
 .obtain⟨its,r',pl,hz⟩:=I.list hq;have hlen:=r'.length;refine call_tuple_list pl.isList (λh' kp=>?_) (by simp only[dj]<;>omega);have I1:Inv X pins σ H {s with heap:=h' }:=I.kept (t':=s.toks) kp
  have I2:Inv X pins σ (upd H h'.objs.size (.tup ys)) {s with heap:=h'.push {cls:=.type "tuple",data:=.seq its.toArray}} :=
   I1.laid (t':=s.toks) (λb o e=>cg _ e) (dw _) (show dM X.prog X.w _ _ _ (.tup ys)from⟨hz,its,r',IsTup.new _ _⟩)
  exact⟨.ref h'.objs.size,_,I2,rfl,q _ (I1.hok.fresh (dw _))⟩
 .obtain⟨its,r',pl,hz⟩:=I.tuple hq;exact call_tuple_same pl ⟨.ref p,H,I,rfl,q⟩
def tyV(K:ig)(T:String)(x:V)(H:Hp):Prop:=match x with
 |.str _=>T="str"
 |.int _=>T="int"
 |.ref p=>(T="list"/\∃xs,pO K H p xs)∨(T="tuple"/\∃o,K.lookup p=aj o/\o.cls=.type "tuple"/\o.dict=aq) ∨
   (T="dict"/\((∃kvs,H p=aj (.dK kvs))∨∃kvs,H p=aj (.dT kvs)))∨(T="set"/\∃S n,H p=aj (.set S n))
 |_=>False
theorem anY{s:cj}{T:String}(I:Inv X pins σ H s)(r:RelV x v)(ty:tyV X.K T x H) :
  s.TypeIs v T/\∀a,v=.ref a->∃ob,s.heap.get? a=aj ob/\ob.dict=aq:=by
 cases x with
 |str z =>
  obtain⟨t,rfl⟩:=r;cases(show T="str" from ty);exact⟨typeIs_str s z t,λ_ e=>nomatch e⟩
 |int i =>
  obtain⟨t,rfl⟩:=r;cases(show T="int" from ty);exact⟨typeIs_int s i t,λ_ e=>nomatch e⟩
 |ref p =>
  cases r;rcases ty with⟨rfl,xs,hq⟩|⟨rfl,o,hk,hc,hd⟩|⟨rfl,hk⟩|⟨rfl,S,n,hk⟩
  .obtain⟨its,_,pl,_⟩:=I.list hq;refine⟨pl.isList.typeIs,λa e=>?_⟩;cases e;obtain⟨o,n,e,c,hd,_⟩:=pl;exact⟨o,e,hd⟩
  .refine⟨⟨o,I.kIn p o hk,hc⟩,λa e=>?_⟩;cases e;exact⟨o,I.kIn _ o hk,hd⟩
  .have z:∃o,s.heap.get? p=aj o/\o.ExactDict:=by
    rcases hk with⟨kvs,hk⟩|⟨kvs,hk⟩
    .obtain⟨_,_,_,_,o,_,_,e,ex,_⟩:=I.hok p _ hk;exact⟨o,e,ex⟩
    .obtain⟨_,_,_,_,o,_,_,e,ex,_⟩:=I.hok p _ hk;exact⟨o,e,ex⟩
   obtain⟨o,e,ex⟩:=z;refine⟨⟨o,e,ex.1⟩,λa e2=>?_⟩;cases e2;exact⟨o,e,ex.2.1⟩
  .obtain⟨o,_,_,_,e,ex,_⟩:=I.hok p _ hk;refine⟨⟨o,e,ex.1⟩,λa e2=>?_⟩;cases e2;exact⟨o,e,ex.2.1⟩
 |_=>exact False.elim ty
end
end
variable{t':Nat}
section
noncomputable def MtM(X:Cx)(id:String)(r:V->List V->Hp->VK->Prop):Prop :=
 ∀(pins:List (bx×Obj))(s:cj)(σ:St)(H:Hp)(x:V)(xs:List V)(v:bh)(us:List bh)(Q:VK),Inv X pins σ H s->RelV x v->Vals xs us->r x xs H Q ->
  cu (fj X.prog X.w) X.A (call (.builtin id) (v::us)) (EP X pins σ Q) X.xe s
theorem Vals.one(h:Vals [x] us):∃u,us=[u]/\RelV x u:=by
 cases h with
 |cons r h=>cases h;exact⟨_,rfl,r⟩
theorem Vals.two(h:Vals [x,y] us):∃u v,us=[u,v]/\RelV x u/\RelV y v:=by
 cases h with
 |cons r h =>
 cases h with
 |cons q h=>cases h;exact⟨_,_,rfl,r,q⟩
theorem Vals.zero:∀{us:List bh},Vals [] us->us=[]
 |_,.nil=>rfl
theorem Vals.dropLast{xs:List V}{us:List bh}(h:Vals xs us):Vals xs.dropLast us.dropLast:=by
 induction h with
 |nil=>exact .nil
 |cons r t ih =>
  cases t with
  |nil=>exact .nil
  |cons q t'=>exact .cons r ih
theorem Vals.eraseIdx:∀{xs:List V}{us:List bh}(i:Nat),Vals xs us->Vals (xs.eraseIdx i) (us.eraseIdx i)
 |_,_,_,.nil=>.nil
 |_,_,0,.cons _ t=>t
 |_,_,i+1,.cons r t=>.cons r (Vals.eraseIdx i t)
theorem agP{α:Type}(l:List α):l.eraseIdx (l.length - 1)=l.dropLast:=by
 induction l with
 |nil=>rfl
 |cons a r ih =>
  cases r with
  |nil=>rfl
  |cons b r =>
   have e:(a::b::r).length - 1=((b::r).length - 1)+1:=by
    have h1:(a::b::r).length=r.length+2:=rfl;have h2:(b::r).length=r.length+1:=rfl;omega
   rw[e,List.eraseIdx_cons_succ,ih]
   all_goals rfl
section
variable{pins:List (bx×Obj)}{s:cj}{xs ys:List V}
theorem Inv.auR(I:Inv X pins σ H s)(hH:H l=aj (.lst xs))
  (e:s.heap.get? l=aj {cls:=.type "list",data:=.seq its.toArray n})(hf:f its.toArray=its'.toArray)(hv:Vals ys its')(hz:ys.length<=dg) :
  Inv X pins σ (upd H l (.lst ys)) {s with heap:=s.heap.update l (Obj.mapSeq f),toks:=t' }:=by
 have q:=PySem.IsL.update e f;rw[hf]at q;refine I.write (x:=l) (e:=l) (by rw[hH];exact trivial) (.inl rfl) (λb' u hb hu=>(mz s.heap (Obj.mapSeq f) (Ne.symm hb)).trans hu) ⟨_,q⟩ ?_;exact⟨hz,its',_,hv,q⟩
theorem Inv.aHL(I:Inv X pins σ H s)(hv:Vals ys its)(hz:ys.length<=dg) :
  Inv X pins σ (upd H s.heap.objs.size (.lst ys)) {s with heap:=s.heap.push {cls:=.type "list",data:=.seq its.toArray},toks:=t' } :=
 I.laid (λ_ _ q=>cg _ q) (dw _) ⟨hz,its,0,hv,gV _ rfl⟩
theorem Inv.fresh(I:Inv X pins σ H s):H s.heap.objs.size=aq:=I.hok.fresh (dw _)
theorem Inv.agQ(I:Inv X pins σ H s)(hH:H l=aj (.lst xs)):xs.length<=dg/\∃(its:List bh)(n:Nat),Vals xs its/\xs.length=its.length/\s.heap.get? l=aj {cls:=.type "list",data:=.seq its.toArray n}:=by
 obtain⟨z,its,n,r,e⟩:=I.hok l _ hH;exact⟨z,its,n,r,r.length,e⟩
theorem anZ(h:n<=dg):Builtin.List.listTooLong n=ao:=by
 unfold Builtin.List.listTooLong;exact decide_eq_false (by omega)
end
section
noncomputable def auS:V->List V->Hp->VK->Prop:=λx vs H Q=>∃l xs y,x=.ref l/\vs=[y]/\H l=aj (.lst xs)/\xs.length<dg/\Q .non (upd H l (.lst (xs++[y])))
theorem a9O:MtM X "list.append" auS:=by
 intro pins s σ H x vs v us Q I rx rv h;obtain⟨l,xs,y,rfl,rfl,hH,hz,q⟩:=h;cases rx;obtain⟨u,rfl,ru⟩:=rv.one;obtain⟨z,its,n,r,hl,e⟩:=I.agQ hH;refine call_meets F.slot_list_append ⟨_,e,rfl⟩ F.entry_list_append (F.args_list_append_2 _ _) (PySem.list_append l its.toArray n u (by rw[dj];omega)) ⟨e,?_⟩;refine⟨.non,_,I.auR (its':=its++[u]) hH e (by simp) (r.append (.cons ru .nil)) ?_,rfl,q⟩;rw[vp,List.length_singleton];omega
noncomputable def auT:V->List V->Hp->VK->Prop:=λx vs H Q=>∃l b xs zs,x=.ref l/\vs=[.ref b]/\H l=aj (.lst xs)/\H b=aj (.lst zs)/\xs.length+zs.length<=dg/\Q .non (upd H l (.lst (xs++zs)))
theorem aG5:MtM X "list.extend" auT:=by
 intro pins s σ H x vs v us Q I rx rv h;obtain⟨l,b,xs,zs,rfl,rfl,hH,hB,hz,q⟩:=h;cases rx;obtain⟨u,rfl,ru⟩:=rv.one;cases ru;obtain⟨z,its,n,r,hl,e⟩:=I.agQ hH;obtain⟨z2,its2,n2,r2,hl2,e2⟩:=I.agQ hB;have hsz:its.toArray.size+its2.toArray.size<=dg:=by rw[dj,dj];omega
 have aHM:¬ (!its.toArray.isEmpty&&Builtin.List.listTooLong (its.toArray.size+its2.toArray.size))=ak:=by
  rw[anZ hsz,a1J];exact ou
 refine call_meets F.slot_list_extend ⟨_,e,rfl⟩ F.entry_list_extend (F.args_list_extend_2 _ _)
  (AutoSeq1.list_extend_list_list_0 l its.toArray n b its2.toArray n2 aHM (by rw[dj];omega) (by omega)) ⟨e,e2,?_⟩
 refine⟨.non,_,I.auR (its':=its++its2) hH e (by simp) (r.append r2) ?_,rfl,q⟩;rw[vp];omega
noncomputable def aN4:V->List V->Hp->VK->Prop:=λx vs H Q=>∃l xs y,x=.ref l/\vs=[]/\H l=aj (.lst xs)/\xs[xs.length - 1]?=aj y/\Q y (upd H l (.lst xs.dropLast))
theorem aBT:MtM X "list.pop" aN4:=by
 intro pins s σ H x vs v us Q I rx rv h;obtain⟨l,xs,y,rfl,rfl,hH,hy,q⟩:=h;cases rx;have hus:=rv.zero;subst hus;obtain⟨z,its,n,r,hl,e⟩:=I.agQ hH;obtain⟨u,hu,ru⟩:=r.get hy
 have hy':its.toArray[its.toArray.size - 1]?=aj u:=by
  show its.toArray[its.length - 1]?=aj u;rw[←a2h,←hl];exact hu
 refine call_meets F.slot_list_pop ⟨_,e,rfl⟩ F.entry_list_pop (F.args_list_pop_1 _) (MeetsSeq.list_pop_last l its.toArray n u hy' (by rw[dj];omega)) ⟨e,?_⟩;refine⟨y,_,I.auR (its':=its.dropLast) hH e ?_ r.dropLast ?_,ru,q⟩
 .show its.toArray.eraseIdxIfInBounds (its.toArray.size - 1)=its.dropLast.toArray;rw[dj,List.eraseIdxIfInBounds_toArray,agP]
 .rw[List.length_dropLast];omega
noncomputable def aBU:V->List V->Hp->VK->Prop:=λx vs H Q=>∃l xs,x=.ref l/\vs=[]/\H l=aj (.lst xs)/\Q .non (upd H l (.lst []))
theorem ao0:MtM X "list.clear" aBU:=by
 intro pins s σ H x vs v us Q I rx rv h;obtain⟨l,xs,rfl,rfl,hH,q⟩:=h;cases rx;have hus:=rv.zero;subst hus;obtain⟨z,its,n,r,hl,e⟩:=I.agQ hH;refine call_meets F.slot_list_clear ⟨_,e,rfl⟩ F.entry_list_clear (F.args_list_clear_1 _) (AutoSeq1.list_clear_list_0 l its.toArray n (by rw[dj];omega)) ⟨e,?_⟩;exact⟨.non,_,I.auR (its':=[]) (ys:=[]) hH e rfl .nil (vm _),rfl,q⟩
noncomputable def aN5:R2:=λx y H Q=>∃l b xs zs,x=.ref l/\y=.ref b/\H l=aj (.lst xs)/\H b=aj (.lst zs)/\xs.length+zs.length<=dg/\∀p,H p=aq->Q (.ref p) (upd H p (.lst (xs++zs)))
theorem aBV:pJ X (wg .Add) aN5:=by
 intro pins s σ H x y v u Q I rx ry h;obtain⟨l,b,xs,zs,rfl,rfl,hH,hB,hz,q⟩:=h;cases rx;cases ry;obtain⟨z,its,n,r,hl,e⟩:=I.agQ hH;obtain⟨z2,its2,n2,r2,hl2,e2⟩:=I.agQ hB;refine PySem.P.add_list e e2 ?_ (by rw[dj,dj];omega);have ea:its.toArray++its2.toArray=(its++its2).toArray:=by simp
 rw[ea];exact⟨.ref _,_,I.aHL (t':=s.toks) (r.append r2) (by rw[vp];omega),rfl,q _ I.fresh⟩
end
section
end
section
end
end
end L2
namespace Att
open PySem PySem.W PySem.Calls PyProof.Rows
theorem a3L:∀(ns:List Int)(vs:List bh),WellAll P h vs (ns.map WData.int)->a0d vs ns:=by
 intro ns
 induction ns with
 |nil =>
  intro vs w;rw[a2n]at w;cases w;exact .nil
 |cons n ns ih =>
  intro vs w;rw[qd]at w;cases w with
  |cons a b =>
   cases a;exact .cons _ _ (ih _ b)
variable{l:OpenLaw}{n:Nat}
theorem akX(hn:l.most=aj n){h:jj} 
  (hpre:l.row.toRowW.claim.pre args=ak)(hwl:WellAll P h vals args) :
  ∃a vs ns,vals=[bh.ref a]/\args=[WData.list (ns.map WData.int)]/\h.get? a=aj {cls:=.type "list",data:=.seq vs.toArray}/\a0d vs ns/\ns.length<=n:=by
 have hsh:WShape.hasAll [] args [.list .int]=ak:=(pre_splitW hpre).1;have hc:l.pre.holds [] {args:=args}=ak:=(pre_splitW hpre).2;obtain⟨d,r,rfl,h1,h2⟩:=hasAllW_cons hsh;obtain rfl:=hasAllW_nil h2;obtain⟨xs,rfl,h3⟩:=hasW_list h1;obtain⟨ns,rfl⟩:=items_int h3
 have hlen:ns.length<=n:=by
  unfold OpenLaw.pre at hc
  have h4:(WTm.not (.lt (.lit (.int (n:Int))) (.len (.arg 0)))).holds [] {args:=[.list (ns.map .int)]}=ak:=by
   have h4:=(holds_andW hc).1;rw[hn]at h4;exact h4
  have h5:=condW_of h4 (w_not (w_lt w_lit (w_len_list (w_arg rfl))));rw[jc]at h5;refine Nat.le_of_not_lt λq=>?_;have q':(n:Int)<((ns.length:Nat):Int):=by omega
  first
   |(rw[decide_eq_true q']at h5;exact absurd h5 (by decide))
   |(simp at h5;omega)
 cases hwl with
 |cons w1 w2 =>
  cases w2;cases w1 with
  |list ho hall=>exact⟨_,_,ns,rfl,rfl,ho,a3L ns _ hall,hlen⟩
theorem akY(l:OpenLaw)(args:List WData):l.row.toRowW.claim.post args (.bool ak) args=ak :=
 postW_of (r:=l.row.toRowW) (X:=(ak==ak))
  (show WShape.has [] (.bool ak) .bool=ak by first|rfl|decide|simp[WShape.has,WShape.arms,WShape.armsAll])
  (show(WTm.eq .res (.lit (.bool ak))).value [] {args:=args,res:=some (.bool ak),after:=args}=aj (.bool (ak==ak))from w_eq_bool (w_res rfl) w_lit) rfl
theorem adA{d:DefRec}
  (hn:l.most=aj n)(hdf:d.params.defaults=[])
  (call:∀(w:iy)(s₀ s₁:cj)(mg mb:Str->Option bh)(fa:bx)(o:Obj)(pm cd doc:bh)(a:bx)(vs:List bh)(ns:List Int),
   Ground q loose [] XP w s₀ mg mb s₁.heap->YP w s₁.heap ->
   s₁.heap.get? fa=aj o->o.data=.func (docDef d.name d.params d.body d.scope pm cd doc)->s₁.heap.CodeRec cd d.name->mg d.name=aj (.ref fa) ->
   s₁.heap.get? a=aj {cls:=.type "list",data:=.seq vs.toArray}->a0d vs ns->ns.length<=n->s₁.gens=#[] ->
   yu (fj l.prog w) callerA (.call (.ref fa) ⟨[.ref a],[]⟩) (λr s'=>r=.ok (.ret (.bool ak))/\OldK s₁.heap s'.heap/\s'.os=s₁.os/\AllBare s'.gens) s₁) :
  WalkO q loose XP YP l.row.toRowW d [] (λf vs=>PySem.call f vs):=by
 intro w s₀ s₁ mg mb G Y fa o pm cd doc dV kV ho hd hcd hD hmg hg args vals as hpre hlay hrd hwl hlo;obtain rfl:dV=.none:=Dflts.none hD hdf;obtain rfl:kV=.none:=Dflts.noKw hD;obtain⟨a,vs,ns,rfl,rfl,hobj,hints,hlen⟩:=akX hn hpre hwl;refine enter_call (codeAny_mono (call w s₀ s₁ mg mb fa o pm cd doc a vs ns G Y ho (fd_plain hd) hcd hmg hobj hints hlen hg) λr s' hq=>?_);obtain⟨rfl,h2,h3,h4⟩:=hq;exact⟨.inl ⟨.bool ak,.bool ak,[],rfl,λ_=>rfl,.bool ak,akY l _,λ_=>⟨List.Pairwise.nil,λ_ hm=>(nomatch hm)⟩⟩,h2,h3,h4⟩
section
noncomputable def ledger(h:jj)(L d:bx):List (bx×Obj):=(jy h.objs.size).filterMap λa=>if a=L∨a=d then aq else(h.get? a).map λo=>(a,o)
end
end Att
namespace L2
open PySem PySem.Spec PyProof.Rows
section
theorem a9P:∀{vs:List bh}{ns:List Int},a0d vs ns->Vals (ns.map V.int) vs
 |_,_,.nil=>.nil
 |_,_,.cons n t h=>.cons ⟨t,rfl⟩ (a9P h)
end
end L2
namespace L2
open PySem PySem.Spec PyProof.Rows
variable{x qual:Str}{st:kj}{pos:Pos}
section
noncomputable def dB(s:kj):Arguments:=match s with
 |.FunctionDef _ a _ _ _ _ _ _ _ _=>a
 |_=>{posonlyargs:=[],args:=[],vararg:=none,kwonlyargs:=[],kw_defaults:=[],kwarg:=none,defaults:=[]}
noncomputable def bU(s:kj):List kj:=match s with
 |.FunctionDef _ _ b _ _ _ _ _ _ _=>b
 |_=>[]
noncomputable def aW(s:kj):uh:=match s with
 |.FunctionDef _ _ _ _ _ _ sc _ _ _=>sc
 |_=>{kind:=.function,names:=[],isGenerator:=false,isCoroutine:=false}
noncomputable abbrev CX0:CXT:=λ_ _ _ _ _ _=>False
structure Fun(K:ig)(x qual:Str)(st:kj)(f:bx)(fd:ju):Prop where
 ex:∃(oc:bh)(od:Option bx)(dV kV doc pm:bh)(an:Option bx)(cdv ct:bh)(osl:Array (Option bh)),
  fd=qx x qual (dB st) (bU st) (aW st) dV kV doc pm an cdv ct/\K.lookup f=aj ⟨oc,od,.func fd,osl⟩/\a1z K cdv qual=ak
 kp:tu K (.ref f)=ak
variable{f:bx}
section
variable{P:jt}{w:iy}{K:ig}{mg:Str->Option bh}{base:jj}
theorem Fun.ok{fd:ju}{N ps:List Str}{k:Nat}{sp:Sp}(F:Fun K x qual st f fd)(S:bA N ps (aW st))(len:∀vs H Q E,sp vs H Q E->vs.length=ps.length)
  (hbody:∀(cdv:bh)(A:iw)(outer:List Env)(s:cj)(H:Hp)(vs:List V)(Q:VK)(E:XK),d9 qt k (A.deeper (envOfC qual (aW st) s.heap.objs.size f cdv))->sp vs H Q E ->
   ∃t,PSs (lR qt CX0 P w K mg base N qual (aW st) f cdv A outer s H E).nox (bU st) t/\t {nx:=λ_ H'=>Q .non H',rt:=Q} (start N vs) H):bY qt P w K mg base CX0 (k+1) f fd ps sp:=by
 obtain⟨oc,od,dV,kV,doc,pm,an,cdv,ct,osl,rfl,lk,hcd⟩:=F.ex;refine anM lk hcd S len λA outer s H vs Q E hr hsp=>?_;obtain⟨t,h,q⟩:=hbody cdv A outer s H vs Q E hr hsp;exact⟨t,h.nox,q⟩
theorem ao1{oc:bh}{od an:Option bx}{osl:Array (Option bh)}{dV kV doc pm cdv ct:bh}(l:K.lookup f=aj ⟨oc,od,.func (qx x qual (dB st) (bU st) (aW st) dV kV doc pm an cdv ct),osl⟩)
  (c:a1z K cdv qual=ak)(k:tu K (.ref f)=ak):Fun K x qual st f (qx x qual (dB st) (bU st) (aW st) dV kV doc pm an cdv ct):=⟨⟨oc,od,dV,kV,doc,pm,an,cdv,ct,osl,rfl,l,c⟩,k⟩
end
section
variable{X:Cx}
theorem pv(i:Nat)(hN:X.N[i]?=aj x:=by rfl)(hv:Vis X.env.scope x:=by first|exact Or.inl rfl|exact Or.inr (Or.inl rfl)|exact Or.inr (Or.inr rfl))(hd:(x==("__debug__":Str))=ao:=by decide)
  (hcd:(x==("__classdict__":Str))=ao:=by decide):PE X (.Name x pos) (aAO i):=an7 hN hv hd hcd
end
theorem akZ{A B:Prop}[Decidable c](h1:c->A)(h2:¬ c->B):if c then A else B:=by
 by_cases h:c
 .rw[if_pos h];exact h1 h
 .rw[if_neg h];exact h2 h
def Same(H H':Hp):Prop:=∀b o,H b=aj o->H' b=aj o
theorem Same.refl(H:Hp):Same H H:=λ_ _ h=>h
theorem Same.trans(a:Same H H1)(b:Same H1 H2):Same H H2:=λc o h=>b c o (a c o h)
theorem Same.free(e:Same H H')(h:H' l=a1c):H l=a1c:=by
 cases q:H l with
 |none=>rfl
 |some o =>
  rw[e l o q]at h;cases h
theorem Same.seq{K:ig}(e:Same H H')(h:pO K H a xs):pO K H' a xs:=by
 rcases h with(h|⟨o,h⟩)|h
 .exact .inl (.inl (e _ _ h))
 .exact .inl (.inr ⟨o,e _ _ h⟩)
 .exact .inr h
section
end
section
variable[DecidableEq κ]
end
end
variable{prog:jt}
section
section
open AutoSeq1 (wpAny_loadPart')
set_option tactic.hygienic true in
theorem a5K(l:bx)(items:Array bh)(n:Nat)(dct:Option bx)(sl:Array (Option bh)) :
  Meets (Builtin.«enumerate.__new__» ⟨[.type "enumerate",.ref l],[]⟩) (λ_ R s=>s.heap.get? l=aj {cls:=.type "tuple",dict:=dct,data:=.seq items n,slots:=sl} /\
   R (.ok (.ret (.ref (s.heap.push {cls:=.type "tuple_iterator",data:=.fields #[.ref l,.int 0 0]}).objs.size)))
    {s with heap:=(s.heap.push {cls:=.type "tuple_iterator",data:=.fields #[.ref l,.int 0 0]}).push {cls:=.type "enumerate",data:=.fields #[.none,.bool ao,.ref s.heap.objs.size,yg 0,.none,.none]}}) :=
 .of_wp λprog w A R s h=>by
  obtain⟨hp,g,d,tk,os⟩:=s;obtain⟨hl,h⟩:=h;have hsub:=sub_enumerate;have hL:Heap.IsTuple (cj.heap ⟨hp,g,d,tk,os⟩) l items:=⟨_,hl,rfl,n,rfl⟩
  wp_walk using wpAny_loadPart' hl
  refine wpAny_stack_any λst=>dh ?_;split
  ·rename_i c _ _ _ _ _;cases(c==bh.type "enumerate")
   .wp_walk using wpAny_loadPart' hl,a0f hL
    exact⟨_,rfl,h⟩
   .wp_walk using wpAny_loadPart' hl,a0f hL
    exact⟨_,rfl,h⟩
  .wp_walk using wpAny_loadPart' hl,a0f hL
   exact⟨_,rfl,h⟩
end
variable{i:Nat}
section
variable{prog:jt}{w:iy}{A:iw}{s:cj}
theorem a8P{items:Array bh}(hL:s.heap.IsTuple l items)
  (h:∀h',IsEnum h' (s.heap.objs.size+1) s.heap.objs.size 0 .none->h'.IsTupleIter s.heap.objs.size l 0->h'.objs.size=s.heap.objs.size+2 ->
   (∀b o,s.heap.get? b=aj o->h'.get? b=aj o)->Q (.ref (s.heap.objs.size+1)) {s with heap:=h' }) :
  cu (fj prog w) A (call (.type "enumerate") [.ref l]) Q E s:=by
 obtain⟨⟨c,dct,dt,sl⟩,hl,hc,n,hd⟩:=hL;replace hc:c=.type "tuple":=hc;replace hd:dt=.seq items n:=hd;subst hc hd
 refine callType_new F.called_enumerate (by decide) (F.typeCall_enumerate_1 _) (F.newCall_enumerate_1 _) (λobj=>F.args_object_init_2 obj _) F.entry_enumerate_new
  (a5K l items n dct sl) ⟨hl,?_⟩
 have hz:(s.heap.push {cls:=.type "tuple_iterator",data:=.fields #[.ref l,.int 0 0]}).objs.size=s.heap.objs.size+1:=wu ..;show _/\_;rw[hz]
 have he:IsEnum ((s.heap.push {cls:=.type "tuple_iterator",data:=.fields #[.ref l,.int 0 0]}).push
   {cls:=.type "enumerate",data:=.fields #[.none,.bool ao,.ref s.heap.objs.size,yg 0,.none,.none]}) (s.heap.objs.size+1) s.heap.objs.size 0 .none:=by
  have:=gV (s.heap.push {cls:=.type "tuple_iterator",data:=.fields #[.ref l,.int 0 0]})
   (o:={cls:=.type "enumerate",data:=.fields #[.none,.bool ao,.ref s.heap.objs.size,yg 0,.none,.none]}) rfl
  rw[hz]at this;exact this
 refine⟨⟨_,he,rfl⟩,h _ he ⟨_,cg _ (gV _ rfl),rfl,rfl⟩ (by rw[wu,hz]) λb o x=>cg _ (cg _ x)⟩
theorem a3M{items:Array bh}{x:bh}(hit:s.heap.IsTupleIter it l i)(hl:s.heap.IsTuple l items)(hx:items[i]?=aj x)
  (hQ:∀h',h'.IsTupleIter it l (i+1)->qw it s.heap h'->Q x {s with heap:=h' }):cu (fj prog w) A (Builtin.SmallTypes.nextOf (.ref it)) Q E s:=by
 obtain⟨o,ho,hc,hd⟩:=id hit;obtain⟨ol,hol,_,nl,hdl⟩:=hl;unfold Builtin.SmallTypes.nextOf
 refine au (yx (name:=Str.ofString "__next__") hit.typeIs F.slot_tuple_iterator_next
  (a0b F.slot_tuple_iterator_next hit.typeIs F.entry_tuple_iterator_next ?_ (F.args_tuple_iterator_next_1 _)))
 show cu _ _ (field (.ref it) 0 >>= _) _ _ s;refine au (oh ho hd (x:=.ref l) rfl ?_);show cu _ _ (if(bh.ref l==bh.none)=ak then _ else _) _ _ s;rw[if_neg (show ¬ ((bh.ref l==bh.none)=ak)from ou)];show cu _ _ (field (.ref it) 1 >>= _) _ _ s;refine au (oh ho hd (x:=.int i 0) rfl ?_);show cu _ _ (a0w (.ref l) >>= _) _ _ s;refine au (wz hol hdl ?_);simp only[ux,hx];refine au (vh ho hd (by simp) (dh ⟨x,rfl,dh (hQ _ ?_ (qw.update ..))⟩))
 exact⟨_,vg _ ho (Obj.isFreed_of_fields (Obj.data_mapFields hd _)),(Obj.cls_mapFields ..).trans hc,by
  rw[Obj.data_mapFields hd];simp[yg]⟩
theorem a5L{items:Array bh}(hh:A.handled=aq)(hit:s.heap.IsTupleIter it l i)(hl:s.heap.IsTuple l items)(hx:items[i]?=aq)
  (hE:∀h' e,a1i it s.heap h'->(∃o,h'.get? e=aj o/\o.cls=.type "StopIteration")->E (.ref e) {s with heap:=h' }):cu (fj prog w) A (Builtin.SmallTypes.nextOf (.ref it)) Q E s:=by
 obtain⟨o,ho,hc,hd⟩:=id hit;obtain⟨ol,hol,_,nl,hdl⟩:=hl;unfold Builtin.SmallTypes.nextOf
 refine au (yx (name:=Str.ofString "__next__") hit.typeIs F.slot_tuple_iterator_next
  (a0b F.slot_tuple_iterator_next hit.typeIs F.entry_tuple_iterator_next ?_ (F.args_tuple_iterator_next_1 _)))
 show cu _ _ (field (.ref it) 0 >>= _) _ _ s;refine au (oh ho hd (x:=.ref l) rfl ?_);show cu _ _ (if(bh.ref l==bh.none)=ak then _ else _) _ _ s;rw[if_neg (show ¬ ((bh.ref l==bh.none)=ak)from ou)];show cu _ _ (field (.ref it) 1 >>= _) _ _ s;refine au (oh ho hd (x:=.int i 0) rfl ?_);show cu _ _ (a0w (.ref l) >>= _) _ _ s;refine au (wz hol hdl ?_);simp only[ux,hx];refine au (a0x (au (vh ho hd (by simp) ?_)));show cu _ _ (newExc (.type "StopIteration") [] >>= _) _ _ _;refine au ?_;simp only[newExc,newTuple];refine au (ni ?_ (by size_fits));refine au (m:=firstArgMember _ _) (wpAny_of_eq (a:=Value.none) (by first|rfl|(simp only[a1x];rfl)) ?_);refine ni ?_ (by size_fits);simp only[raiseNew];refine au (wpAny_handled ?_)
 first|rw[show A.in1.handled=aq from hh]|rw[hh]
 refine au (dh (wpAny_throw ?_));exact hE _ _ (((qw.update ..).extBut.push _).push _) ⟨_,gV _ rfl,rfl⟩
end
theorem a9Q{w:iy}{A:iw}(hh:A.handled=aq)(it l:bx)(hne:l≠it)(items:Array bh) :
  Draws prog w A it [it,l] items.size (λi v=>items[i]?=aj v) (λi h=>h.IsTupleIter it l i/\h.IsTuple l items) where
 live:=λ_ _ st=>let⟨o,ho,_⟩:=st.1;⟨o,ho⟩
 frame:=λ_ _ _ st hk=>⟨st.1.at λo e=>hk it (by simp) o e,st.2.at λo e=>hk l (by simp) o e⟩
 item:=λi s Q E hi st hQ=>by
  refine a3M st.1 st.2 (x:=items[i]) (by simp[hi]) λh' hit' hs'=>?_;exact hQ _ h' s.toks (by simp[hi]) ⟨hit',st.2.extBut hs'.extBut hne⟩ hs'
 done:=λs Q E st hE=>a5L hh st.1 st.2 (by simp) hE
variable{b:bh}{s:cj}
section
variable{prog:jt}{w:iy}{A:iw}{St:Nat->jj->Prop}
theorem al0(W:Walks prog w A.in1 I fp wr 2 P St)(S:bx)(hSf:S∉fp){h0:jj}{k:Bool}
  (hP:∀i v,P i v->(i=0->v=a)/\(i=1->v=b))
  (hwr:∀c o,h0.get? c=aj o->c∉wr/\c≠S){c:Nat}
  (hcmp:∀(h2:jj)(tk:Nat)(Q:bh->cj->Prop)(E:bh->cj->Prop),(∀c o,h0.get? c=aj o->h2.get? c=aj o)->Q (.bool k) {s with heap:=h2,toks:=tk}->cu (fj prog w) A.in1 (a1l .Lt b a) Q E {s with heap:=h2,toks:=tk})(hst:St 0 s.heap)(hk0:∀c o,h0.get? c=aj o->s.heap.get? c=aj o)
  (hS:s.heap.get? S=aj {cls:=.type "list",dict:=none,data:=.seq #[] c,slots:=#[]})
  (hR:∀h' tk,(∀c o,h0.get? c=aj o->h'.get? c=aj o)->R (.ok (.ret (if k then b else a))) {s with heap:=h',toks:=tk}) :
  yu (fj prog w) A (.builtin "min.loop" ⟨[.ref I,.none,.ref S],[]⟩) R s:=by
 have hSw:S∉wr:=λh=>hSf (W.sub _ h);have hname:(toString "min"++toString ".loop":String)="min.loop":=by decide
 have fin:∀(s2:cj)(v:bh)(c2:Nat)(hg:s2.gens=s.gens/\s2.drawn=s.drawn/\s2.os=s.os),St 2 s2.heap->(∀c o,h0.get? c=aj o->s2.heap.get? c=aj o)->v=(if k then b else a) ->
   s2.heap.get? S=aj {cls:=.type "list",dict:=none,data:=.seq #[v,v] c2,slots:=#[]}->yu (fj prog w) A (.builtin "min.loop" ⟨[.ref I,.none,.ref S],[]⟩) R s2:=by
  rintro⟨hp2,g2,d2,t2,o2⟩ v c2 ⟨e1,e2,e3⟩ hst2 hk2 hv hS2;cases e1;cases e2;cases e3;refine xr F.entry_min_loop ?_;rw[iw.under_plainId F.plain_min_loop _];show cu _ A.in1 (a0w (.ref S) >>= _) _ _ _;refine au (wz hS2 rfl ?_);show cu _ A.in1 (tryCatch (zc (.ref I)) _ >>= _) _ _ _;refine au (yw (W.done _ _ _ hst2 λh' tk hk'=>?_));have hS':=hk' S _ hSw hS2;show cu _ A.in1 (updateSeq S (λ_=>#[]) >>= _) _ _ _;refine au ?_;refine a1a hS' rfl (au (zp (dh ?_)));subst hv;exact hR _ tk λc o e=>(mz _ _ (Ne.symm (hwr c o e).2)).trans (hk' c o (hwr c o e).1 (hk2 c o e))
 refine xr F.entry_min_loop ?_;rw[iw.under_plainId F.plain_min_loop _];show cu _ A.in1 (a0w (.ref S) >>= _) _ _ s;refine au (wz hS rfl ?_);show cu _ A.in1 (tryCatch (zc (.ref I)) _ >>= _) _ _ s;refine au (yw (W.item 0 s _ _ (by decide) hst λv h' tk hPv hst' hk'=>?_));obtain rfl:=(hP 0 v hPv).1 rfl;have hS':=hk' S _ hSw hS;show cu _ A.in1 (updateSeq S (λ_=>#[v,v]) >>= _) _ _ _;refine au ?_;refine a1a hS' rfl ?_;rw[hname];refine dh ⟨zf F.plain_min_loop _,?_⟩;have hk1:∀c o,h0.get? c=aj o->(h'.update S (Obj.mapSeq λ_=>#[v,v])).get? c=aj o:=λc o e=>(mz _ _ (Ne.symm (hwr c o e).2)).trans (hk' c o (hwr c o e).1 (hk0 c o e));have aN6:St 1 (h'.update S (Obj.mapSeq λ_=>#[v,v])):=W.frame _ _ _ hst' λb hbf o e=>(mz _ _ (λh:S=b=>hSf (by rw[h];exact hbf))).trans e;refine xr F.entry_min_loop ?_;rw[iw.under_plainId F.plain_min_loop _];show cu _ A.in1 (a0w (.ref S) >>= _) _ _ _;have hS1:(h'.update S (Obj.mapSeq λ_=>#[v,v])).get? S=_:=vg _ hS' rfl;refine au (wz hS1 rfl ?_);show cu _ A.in1 (tryCatch (zc (.ref I)) _ >>= _) _ _ _;refine au (yw (W.item 1 _ _ _ (by decide) aN6 λu h2 tk2 hPu hst2 hk2=>?_));obtain rfl:=(hP 1 u hPu).2 rfl;have hS2:=hk2 S _ hSw hS1;have kk:∀c o,h0.get? c=aj o->h2.get? c=aj o:=λc o e=>hk2 c o (hwr c o e).1 (hk1 c o e);show cu _ A.in1 (tryCatch (a0g [u,u] (a1l .Lt u v >>= _)) _ >>= _) _ _ _;refine au (yw (qb (au (hcmp _ _ _ _ kk ?_))));refine au (qb (um ?_));refine au (zp (dh ?_));cases k with
 |true =>
  simp only[if_true];refine au ?_;refine a1a hS2 rfl (au (zp ?_));rw[hname];refine dh ⟨zf F.plain_min_loop _,fin _ u _ ⟨rfl,rfl,rfl⟩ (W.frame _ _ _ hst2 λb hbf o e=>?_) (λc o e=>?_) (by simp) (vg _ hS2 rfl)⟩
  .exact(mz _ _ (λh:S=b=>hSf (by rw[h];exact hbf))).trans e
  .exact(mz _ _ (Ne.symm (hwr c o e).2)).trans (kk c o e)
 |false =>
  simp only[qe,if_false];refine au (zp ?_);rw[hname];exact dh ⟨zf F.plain_min_loop _,fin _ v _ ⟨rfl,rfl,rfl⟩ hst2 kk (by simp) hS2⟩
end
theorem adB{w:iy}{A:iw}{k:Bool}(hh:A.handled=aq)
  (hcmp:∀(h2:jj)(tk:Nat)(Q:bh->cj->Prop)(E:bh->cj->Prop),(∀c o,s.heap.get? c=aj o->h2.get? c=aj o)->Q (.bool k) {s with heap:=h2,toks:=tk}->cu (fj prog w) A.in1 (a1l .Lt b a) Q E {s with heap:=h2,toks:=tk})
  (h:∀h' tk,(∀c o,s.heap.get? c=aj o->h'.get? c=aj o)->Q (if k then b else a) {s with heap:=h',toks:=tk}) :
  cu (fj prog w) A (call (.builtin "min") [a,b]) Q E s:=by
 have hname:(toString "min"++toString ".loop":String)="min.loop":=by decide
 have hT:(s.heap.push {cls:=.type "tuple",data:=.seq #[a,b]}).IsTuple s.heap.objs.size #[a,b]:=⟨_,gV _ rfl,rfl,0,rfl⟩;have hsz:(s.heap.push {cls:=.type "tuple",data:=.seq #[a,b]}).objs.size=s.heap.objs.size+1:=wu ..;refine call_function_tree F.kind_min F.plain_min F.entry_min (F.args_min2 _ _) ?_;show cu _ A.in1 (Builtin.Builtins.bindParams "min" ["key","default"] 0 ⟨[],[]⟩ >>= _) _ _ s;refine au (wpAny_of_eq (show Builtin.Builtins.bindParams "min" ["key","default"] 0 ⟨[],[]⟩=pure [aq,aq]from rfl) ?_);show cu _ A.in1 (newTuple [a,b] >>= _) _ _ s;refine au (ni ?_);refine au (a0f hT ?_);refine au (ni ?_);rw[hname];have W:=Walks.tuple (prog:=prog) (w:=w) (A:=A.in1) hh (s.heap.push {cls:=.type "tuple",data:=.seq #[a,b]}).objs.size s.heap.objs.size (by rw[hsz];exact jd (Nat.lt_succ_self _)) #[a,b];have hsz2:((s.heap.push {cls:=.type "tuple",data:=.seq #[a,b]}).push {cls:=.type "tuple_iterator",data:=.fields #[.ref s.heap.objs.size,.int 0 0]}).objs.size=s.heap.objs.size+2:=by rw[wu,hsz]
 refine dh ⟨zf F.plain_min_loop _,al0 (h0:=s.heap) (a:=a) (b:=b) (k:=k) W _ (λhm=>?_) (λi v hv=>⟨λe=>?_,λe=>?_⟩) (λc o e=>⟨λhm=>?_,λhm=>?_⟩) hcmp (W.frame _ _ _ ⟨⟨_,gV _ rfl,rfl,rfl⟩,hT.push _⟩ λb _ o e=>cg _ e) (λc o e=>cg _ (cg _ (cg _ e))) (gV _ rfl) h⟩
 .have hm':((s.heap.push {cls:=.type "tuple",data:=.seq #[a,b]}).push {cls:=.type "tuple_iterator",data:=.fields #[.ref s.heap.objs.size,.int 0 0]}).objs.size∈[(s.heap.push {cls:=.type "tuple",data:=.seq #[a,b]}).objs.size,s.heap.objs.size]:=hm;rw[hsz2,hsz]at hm';simp at hm'
 .subst e;simpa using hv.symm
 .subst e;simpa using hv.symm
 .have hm':c∈[(s.heap.push {cls:=.type "tuple",data:=.seq #[a,b]}).objs.size]:=hm;rw[hsz]at hm';have t:c<s.heap.objs.size:=gk e;rw[su.mp hm']at t;exact absurd t (Nat.not_lt.mpr (a1g _ _))
 .have hm':c=((s.heap.push {cls:=.type "tuple",data:=.seq #[a,b]}).push {cls:=.type "tuple_iterator",data:=.fields #[.ref s.heap.objs.size,.int 0 0]}).objs.size:=hm;rw[hsz2]at hm';have t:c<s.heap.objs.size:=gk e;rw[hm']at t;exact absurd t (Nat.not_lt.mpr (a1g _ _))
section
open PySem.SeqAt
open PySem.AutoSeq1 (wpAny_loadPart')
open PySem.MeetsSeq PySem.MeetsSeq2 PySem.MeetsSeq3
set_option tactic.hygienic true in
theorem abA(l b:bx)(x1 x2 y1 y2:bh)(n n2:Nat)(dd dd2:Option bx)(sl sl2:Array (Option bh))(e1 e2 k1 k2:Bool) :
  Meets (Builtin.«tuple.__lt__» ⟨[.ref l,.ref b],[]⟩)
   (λA R s=>s.heap.get? l=aj {cls:=.type "tuple",dict:=dd,data:=.seq #[x1,x2] n,slots:=sl}/\s.heap.get? b=aj {cls:=.type "tuple",dict:=dd2,data:=.seq #[y1,y2] n2,slots:=sl2} /\
    EqAt A.in1 s x1 y1 e1/\EqAt A.in1 s x2 y2 e2 /\
    (e1=ao->∀(prog:jt)(w:iy)(E:bh->cj->Prop)(Q:bh->cj->Prop),Q (.bool k1) s->cu (fj prog w) A.in1 (a1l .Lt x1 y1) Q E s) /\
    (e1=ak->e2=ao->∀(prog:jt)(w:iy)(E:bh->cj->Prop)(Q:bh->cj->Prop),Q (.bool k2) s->cu (fj prog w) A.in1 (a1l .Lt x2 y2) Q E s) /\
    R (.ok (.ret (.bool (if e1 then(if e2 then ao else k2)else k1)))) s) :=
 .of_wp λprog w A R s h=>by
  obtain⟨hp,g,d,tk,os⟩:=s;obtain⟨hl,hb,he1,he2,hc1,hc2,h⟩:=h;have f2:=AutoSeq1.sub_tuple_tuple
  wp_walk using wpAny_loadPart' hl,wpAny_loadPart' hb,wpAny_forIn_list _ (λrest b s'=>b.1=aq/\s'=⟨hp,g,d,tk,os⟩/\((rest=[(x1,y1),(x2,y2)])∨(rest=[(x2,y2)]/\e1=ak)∨(rest=[]/\e1=ak/\e2=ak))) _
  case turn =>
   rintro⟨y,x⟩ rest b s' ⟨hb',rfl,hz⟩;rcases hz with hz|⟨hz,t1⟩|⟨hz,_⟩
   .injection hz with hyx hrest;injection hyx with hy hx;subst hy hx hrest;refine au (he1 prog w _ _ ?_);cases e1 with
    |true =>
     wp_walk
     exact⟨rfl,rfl,.inr (.inl ⟨rfl,rfl⟩)⟩
    |false =>
     have hri:=hc1 rfl prog w
     wp_walk using hri
     exact⟨_,rfl,by simpa using h⟩
   .injection hz with hyx hrest;injection hyx with hy hx;subst hy hx hrest t1;refine au (he2 prog w _ _ ?_);cases e2 with
    |true =>
     wp_walk
     exact⟨rfl,rfl,.inr (.inr ⟨rfl,rfl,rfl⟩)⟩
    |false =>
     have hri:=hc2 rfl rfl prog w
     wp_walk using hri
     exact⟨_,rfl,by simpa using h⟩
   .cases hz
  case fin =>
   rintro⟨b1,b2⟩ s' ⟨hb',rfl,hz⟩;rcases hz with hz|⟨hz,_⟩|⟨_,t1,t2⟩
   .cases hz
   .cases hz
   .simp only at hb';subst hb' t1 t2
    wp_walk
    exact⟨_,rfl,by simpa[Builtin.Tuple.tupleCompareSizes]using h⟩
  case h =>
   exact⟨rfl,rfl,.inl rfl⟩
end
end
variable{h:jj}
section
open PySem.W
section
variable{w:iy}{h h':jj}{more:Array bh}
theorem u9.grow(x:u9 P w H h)(e:H T=aj (.xH ps))(k:∀b u,b≠T->h.get? b=aj u->h'.get? b=aj u)(hT:h'.get? T=aj (tabObj (ps++more))):u9 P w (upd H T (.xH (ps++more))) h':=λa o q=>by
 by_cases z:a=T
 .subst z;rw[aF]at q;cases q;exact hT
 .rw[aJ z]at q;refine(x a o q).stay (λb u hb hu=>k b u ?_ hu) (λb hb=>?_) λb xs hb=>?_
  .rcases hb with rfl|hb
   .exact z
   .intro y;subst y;rw[e]at hb;cases hb
  .rw[aJ (λy=>by subst y;rw[e]at hb;cases hb)];exact hb
  .rw[aJ (λy=>by subst y;rw[e]at hb;cases hb)];exact hb
end
def xM(H:Hp)(c':bx)(qual:Str):Prop:=∃(oc:Obj)(vs:Array bh)(t:Tok),H c'=aj (.gK oc (.ext λ_=>True))/\oc.data=.fields vs/\vs[1]?=aj (.str qual t)
def zH(H:Hp)(qual:Str)(pos:Pos)(ps:Array bh):Prop:=ps=#[]∨∃c',ps=#[yg pos.line,yg pos.col,.ref c']/\xM H c' qual
noncomputable abbrev frO(o:Obj):HO:=.gK o (.ext λ_=>True)
theorem a5M{w:iy}(e:h.get? a=aj o):dM P w H h a (frO o):=⟨e,trivial,⟨o,e⟩,λ_ _ _ _=>trivial⟩
theorem xM.keep(r:xM H c' qual)(k:∀a o φ,H a=aj (.gK o (.ext φ))->H' a=aj (.gK o (.ext φ))):xM H' c' qual:=by
 obtain⟨oc,vs,t,e,r⟩:=r;exact⟨oc,vs,t,k _ _ _ e,r⟩
theorem zH.keep{qual:Str}{pos:Pos}(r:zH H qual pos ps)(k:∀a o φ,H a=aj (.gK o (.ext φ))->H' a=aj (.gK o (.ext φ))):zH H' qual pos ps:=by
 rcases r with r|⟨c',e,r⟩
 .exact .inl r
 .exact .inr ⟨c',e,r.keep k⟩
section
variable{pins:List (bx×Obj)}{s:cj}
theorem Inv.grow{more:Array bh}{h':jj}{t':Nat}(I:Inv X pins σ H s)(e:H T=aj (.xH ps))(k:∀b u,b≠T->s.heap.get? b=aj u->h'.get? b=aj u)(hT:h'.get? T=aj (tabObj (ps++more)))(hc:s.heap.objs.size<=c')(ho:h'.get? c'=aj oc) :
  Inv X pins σ (upd (upd H T (.xH (ps++more))) c' (frO oc)) {s with heap:=h',toks:=t' }:=by
 have fr:H c'=aq:=I.hok.fresh hc;have tc:T≠c':=bW e fr;have nT:∀b,H b=aq->b≠T:=λb n z=>by subst z;rw[e]at n;cases n
 have old:∀b o,s.heap.get? b=aj o->b≠c':=λb o q=>jd (iz (gk q) hc);have hk2:u9 X.prog X.w (upd H T (.xH (ps++more))) h':=I.hok.grow e k hT;refine I.step (ch:=[]) (λb z=>nomatch z) (λb o _ _ _ q n=>k b o (nT b n) q) (λb o _ _ _ q n=>⟨o.slots,k b o (nT b n) q⟩) (λb o _ q n=>?_) (λb o _ q=>?_) (λb xs q=>?_) (λb o u q=>?_) (λb qs q=>?_) (λm hn=>?_) (λa o q=>?_) I.bare
 .rw[aJ (old b o q),aJ (nT b n)];exact n
 .by_cases z:b=T
  .subst z;exact⟨_,hT⟩
  .exact⟨o,k b o z q⟩
 .rw[aJ (bW q fr),aJ (a9F q e (λz=>by cases z))];exact q
 .rw[aJ (bW q fr),aJ (a9F q e (λz=>by cases z))];exact q
 .by_cases z:b=T
  .subst z;rw[e]at q;cases q;exact⟨more,by rw[aJ tc,aF]⟩
  .exact⟨#[],by rw[aJ (bW q fr),aJ z,q];simp⟩
 .obtain⟨o,es,ep,q,r⟩:=hn;exact⟨o,es,ep,k _ _ (nT _ I.free) q,r⟩
 .by_cases z:a=c'
  .subst z;rw[aF]at q;cases q;exact a5M ho
  .rw[aJ z]at q;refine(hk2 a o q).stay (λ_ _ _ h=>h) (λb hb=>?_) λb xs hb=>?_
   .rw[aJ (λy=>by subst y;rw[aJ (Ne.symm tc),fr]at hb;cases hb)];exact hb
   .rw[aJ (λy=>by subst y;rw[aJ (Ne.symm tc),fr]at hb;cases hb)];exact hb
end
end
section
open PySem.W
set_option tactic.hygienic true in
theorem a9R{env:Env}:∀(a b:List kj),execs (a++b) env=(execs a env >>= λf=>match f with|.next=>execs b env|f=>pure f)
 |[],b=>by simp[execs]
 |s::r,b=>by
  rw[a2f,execs,execs,bind_assoc];congr 1;funext f;cases f with
  |next=>exact a9R r b
  |_=>simp
section
end
section
end
end
variable{scope:uh}{qt:Bool}{mg:Str->Option bh}{base:jj}{outer:List Env}
section
open PySem.W
theorem kZ:∀(names:List (Str×nj))(n:Nat)(acc:List (Str×bx)),zm n names acc=zm n names []++acc
 |[],_,_=>rfl
 |(name,kind)::r,n,acc=>by
  unfold zm;split
  ·rw[kZ r (n+1) ((name,n)::acc),kZ r (n+1) [(name,n)],List.append_assoc];rfl
  .exact kZ r n acc
noncomputable def nG(name:Str)(scope:uh)(L a:bx)(cd:bh)(cl:List (Str×bx)):Env :=
 {scope:=scope,locals:=L,globals:=mainGlobals,cells:=cellsFrom (L+1) scope.names cl,qual:=name++".<locals>.",func:=some a,code:=cd,frame:=some L,builtins:=builtinsNs}
structure InX(s:cj)(L:bx)(m:Str->Option bh)(names:List (Str×nj))(s1:cj):Prop where
 call:InCall s L m s1
 cell:∀n c,(n,c)∈zm (L+1) names []->s1.heap.IsCell c aq/\L<c
 apart:(zm (L+1) names []).Pairwise λx y=>x.2≠y.2
section
variable{M:Model}{A:iw}{E:bh->cj->Prop}{s₀ s:cj}{env:Env}
theorem a2N(f:Str×bh->PUnit->Sem (ForInStep PUnit))(hf:∀n v u,f (n,v) u=(do storeName env n v;pure (.yield ⟨⟩)))(hk:env.scope.kind=.function) :
  ∀(binds:List (Str×bh))(m:Str->Option bh)(s:cj)(Q:PUnit->cj->Prop),InX s₀ env.locals m env.scope.names s ->
   (∀x∈binds,env.kindOf x.1=aj .local)->(∀s',InX s₀ env.locals (bindL env.kindOf binds m) env.scope.names s'->Q ⟨⟩ s')->cu M A (forIn binds ⟨⟩ f) Q E s
 |[],m,s,Q,x,_,h=>by rw[List.forIn_nil];exact dh (h s x)
 |(n,v)::r,m,s,Q,x,hl,h=>by
  rw[a0h,hf];have l:=hl (n,v) qu;refine au (au (wpAny_storeName_local l x.call.ns (λh' hn' hs'=>dh (a2N f hf hk r _ _ Q ⟨⟨?_,hn',λb o e=>?_,x.call.fresh⟩,λk c hc=>?_,x.apart⟩ (λy hy=>hl y (jw _ hy)) λs'' x''=>h s'' ?_)) (by rw[hk];rfl)))
  .obtain⟨h₁,tk,rfl⟩:=x.call.same;exact⟨h',_,rfl⟩
  .exact hs'.extBut b o (jd (iz (gk e) x.call.fresh)) (x.call.keep b o e)
  .exact⟨(x.cell k c hc).1.sameBut hs' (yj (x.cell k c hc).2),(x.cell k c hc).2⟩
  .unfold bindL;rw[if_pos l];exact x''
theorem auU{cl:List (Str×bx)}{binds:List (Str×bh)}{f:bx}{code:bh}{Q:Env->cj->Prop}(hk:scope.kind=.function)(hloc:∀x∈binds,scope.names.lookup x.1=aj .local)
  (hQ:∀s',InX s s.heap.objs.size (bindL (nG qual scope s.heap.objs.size f code cl).kindOf binds λ_=>aq) scope.names s'->Q (nG qual scope s.heap.objs.size f code cl) s') :
  cu M A (newFunctionEnv scope ji cl binds (qual++".<locals>.") (aj f) code aq a1y) Q E s:=by
 simp only[newFunctionEnv,Option.isSome_none,qe,if_false];refine au (wpAny_alloc ?_);refine au (wpAny_layCells _ (λname kind cells=>by cases hkc:kind==nj.cell<;>simp[hkc]) _ _ _ _ ?_);have ok:=cellsFrom_ok scope.names (s.heap.push {cls:=.type "frame",data:=.dict #[]}) (s.heap.objs.size+1) [] ⟨λ_ _ hm=>(nomatch hm),List.Pairwise.nil⟩ (by rw[wu];exact dw _);rw[wu]at ok;rw[show({s with heap:=s.heap.push {cls:=.type "frame",data:=.dict #[]}}:cj).heap.objs.size=s.heap.objs.size+1 from wu ..]
 refine au (a2N (s₀:=s) (env:=nG qual scope s.heap.objs.size f code cl) _ (λ_ _ _=>rfl) hk binds (λ_=>aq) _ _
  ⟨⟨⟨_,_,rfl⟩,(Heap.Ns.new s.heap (.type "frame")).keeps (pushCells_keeps _ _),λb o e=>pushCells_keeps _ _ b o (cg _ e),dw _⟩,λn c hm=>ok.empty n c hm,ok.apart⟩ hloc λs' x=>dh (hQ s' x))
end
structure ScX(N ps:List Str)(x:Str)(sc:uh):Prop where
 kind:sc.kind=.function
 co:sc.isCoroutine=ao
 gen:sc.isGenerator=ao
 nd:N.Nodup
 pre:N.take (ps.length+1)=x::ps
 par:∀y∈ps,sc.names.lookup y=aj .local
 free:∀y,sc.names.lookup y=aj .free->y=x
 own:sc.names.lookup x=aj .free
noncomputable def cxX(qt:Bool)(CX:CXT)(P:jt)(w:iy)(K:ig)(mg:Str->Option bh)(base:jj)(N:List Str)(qual:Str)(scope:uh)(f:bx)(cd:bh)(x:Str)(cc:bx)(A:iw)(outer:List Env)(s:cj)(H:Hp)(E:XK):Cx where
 prog:=P
 w:=w
 K:=K
 mg:=mg
 base:=base
 A:=A.deeper (nG qual scope s.heap.objs.size f cd [(x,cc)])
 N:=N
 s₀:=s
 H₀:=H
 env:=nG qual scope s.heap.objs.size f cd [(x,cc)]
 outer:=outer
 stack:=nG qual scope s.heap.objs.size f cd [(x,cc)]::outer
 ex:=[]
 calm:=!qt
 fn:=λy=>!(y==x)
 pn:=[]
 tp:=[]
 xe:=λe s'=>cu (fj P w) (A.deeper (nG qual scope s.heap.objs.size f cd [(x,cc)])) (leaving (nG qual scope s.heap.objs.size f cd [(x,cc)]) e) (λ_ s''=>CX outer H s E e s'') (λe' s''=>CX outer H s E e' s'') s'
instance aN7{qt:Bool}{CX:CXT}{P:jt}{w:iy}{K:ig}{mg:Str->Option bh}{base:jj}{N:List Str}{qual:Str}{scope:uh}{f:bx}{cd:bh}{x:Str}{cc:bx}{A:iw}{outer:List Env}{s s1:cj}{H:Hp}{E:XK}:Tk (cxX qt CX P w K mg base N qual scope f cd x cc A outer s H E).need s1:=⟨λz=>nomatch z⟩
theorem a5N{α:Type}:∀{l m:List (Str×α)}{c:α},(l++m).lookup n=aj c->(n,c)∈l∨m.lookup n=aj c
 |[],_,_,h=>.inr h
 |(k,v)::r,m,c,h=>by
  rw[a2f,jo]at h;cases hb:n==k with
  |true=>rw[hb]at h;cases h;rw[beq_iff_eq.mp hb];exact .inl (.head _)
  |false =>
   rw[hb]at h;rcases a5N h with z|z
   .exact .inl (.tail _ z)
   .exact .inr z
set_option tactic.hygienic true in
theorem uJ:∀{names:List (Str×nj)}{n:Nat}{acc:List (Str×bx)}{y:Str}{c:bx},(y,c)∈zm n names acc->(y,c)∈acc∨(y,nj.cell)∈names
 |[],_,_,_,_,h=>.inl h
 |(name,kind)::r,n,acc,y,c,h=>by
  unfold zm at h;split at h
  .rename_i hk;rcases uJ h with z|z
   .rcases jm.mp z with z|z
    .cases z;exact .inr (by rw[beq_iff_eq.mp hk];exact .head _)
    .exact .inl z
   .exact .inr (.tail _ z)
  .rcases uJ h with z|z
   .exact .inl z
   .exact .inr (.tail _ z)
theorem tL{α:Type}:∀{l m:List (Str×α)},(∀c,(n,c)∉l)->(l++m).lookup n=m.lookup n
 |[],_,_=>rfl
 |(k,v)::r,m,h=>by
  rw[a2f,jo];cases hb:n==k with
  |true=>exact absurd (by rw[beq_iff_eq.mp hb];exact .head _) (h v)
  |false=>exact tL λc hc=>h c (.tail _ hc)
theorem uK{α:Type}{n:Str}{c:α}:∀{l m:List (Str×α)},(l.lookup n=aj c)->(l++m).lookup n=aj c
 |(k,v)::r,m,h=>by
  rw[a2f,jo];rw[jo]at h;cases hb:n==k with
  |true=>rw[hb]at h;exact h
  |false=>rw[hb]at h;exact uK h
theorem agR{w:iy}{K:ig}{N ps:List Str}{A:iw}{s:cj}{vs:List V} 
  (S:ScX N ps x scope)(a5O:∀y∈scope.names,y.1=x->y.2≠.cell)(hd:qt=ao->A.handled=aq)(e0:yD P w K mg base A outer s H)(hl:vs.length=ps.length)(r:Vals vs us)(hc:s.heap.IsCell cc (aj u))(hH:H cc=aq)(rv:RelV vv u)
  (y:InX s s.heap.objs.size (bindL (nG qual scope s.heap.objs.size f cd [(x,cc)]).kindOf (ps.zip us) λ_=>aq) scope.names s1) :
  Inv (cxX qt CX P w K mg base N qual scope f cd x cc A outer s H E) [] (start N (vv::vs)) H s1:=by
 have hpl:ps.length+1<=N.length:=by have:=congrArg List.length S.pre;rw[wj]at this;simp at this;omega
 obtain⟨h1,tk,rfl,hk⟩:=y.call.done;have ccl:cc<s.heap.objs.size:=hc.lt;have noA:∀b:bx,b∉(cxX qt CX P w K mg base N qual scope f cd x cc A outer s H E).ex:=λb z=>absurd (show b∈([]:List bx)from z) (by simp);have cells:(cxX qt CX P w K mg base N qual scope f cd x cc A outer s H E).env.cells=zm (s.heap.objs.size+1) scope.names []++[(x,cc)]:=kZ _ _ _
 have split:∀n c,(cxX qt CX P w K mg base N qual scope f cd x cc A outer s H E).env.cells.lookup n=aj c->(n,c)∈zm (s.heap.objs.size+1) scope.names []∨(n=x/\c=cc):=λn c h=>by
  rw[cells]at h;rcases a5N h with z|z
  .exact .inl z
  .rw[jo]at z;cases hb:n==x with
   |true=>rw[hb]at z;cases z;exact .inr ⟨beq_iff_eq.mp hb,rfl⟩
   |false=>rw[hb]at z;cases z
 have lx:(cxX qt CX P w K mg base N qual scope f cd x cc A outer s H E).env.cells.lookup x=aj cc:=by
  rw[cells,tL λc hm=>?_]
  .simp
  .rcases uJ hm with z|z
   .cases z
   .exact a5O _ z rfl rfl
 have lt:∀n c,(n,c)∈zm (s.heap.objs.size+1) scope.names []->s.heap.objs.size<c:=λn c h=>(y.cell n c h).2
 refine⟨⟨e0.mod,S.kind,rfl,rfl,dw _,λn z c h1 h2=>?_,λn hy=>?_,λn c fn h=>?_,λz=>hd (by cases qt with|false=>rfl|true=>cases z),iw.frames_deeper e0.frames,.inr ⟨rfl,rfl⟩,λb z=>absurd z (noA b),e0.bs,e0.bsz,λb _ _=>noA b,λb z=>absurd z (noA b),e0.nF,e0.frf⟩,
  rfl,e0.bare,Un.kept hk,⟨_,y.call.ns,λi n v h1 h2 h3=>?_⟩,λn c h=>?_,e0.hok.fresh (dw _),λn c h=>?_,λp hp=>absurd (show p∈([]:List (bx×Obj))from hp) (by simp),e0.hok.kept hk,?_,e0.hnd,λp hp=>absurd (show p∈([]:List (bx×List V))from hp) (by simp)⟩
 .rcases split n c h1 with a|⟨a,a'⟩<;>rcases split z c h2 with b|⟨b,b'⟩
  .exact name_of_addr y.apart a b
  .exact absurd (lt _ _ a) (by rw[b'];exact Nat.not_lt.mpr (ur ccl))
  .exact absurd (lt _ _ b) (by rw[a'];exact Nat.not_lt.mpr (ur ccl))
  .rw[a,b]
 .have hy:scope.names.lookup n=aj .cell∨scope.names.lookup n=aj .free:=hy;rcases hy with hy|hy
  .obtain⟨c,e⟩:=a5D (n:=s.heap.objs.size+1) hy;exact⟨c,by rw[cells];exact uK e⟩
  .rw[S.free n hy];exact⟨cc,lx⟩
 .rcases split n c h with a|⟨rfl,rfl⟩
  .exact ur (lt _ _ a)
  .have fn:(!(n==n))=ak:=fn;simp at fn
 .unfold start at h2;cases i with
  |zero =>
   have e1:x=n:=by
    have:=congrArg (λl=>l[0]?) S.pre;rw[a1w (by omega)]at this;have h1:N[0]?=aj n:=h1;rw[h1]at this;simp at this;exact this.symm
   subst e1;simp at h2;subst h2;obtain⟨o,ho,hod⟩:=hc;exact⟨u,rv,.inr ⟨.inr S.own,cc,lx,o,hk _ _ ho,hod⟩⟩
  |succ i =>
   have hi:i<vs.length:=by
    by_cases hi:i<vs.length
    .exact hi
    .rw[uo (by simp;omega)]at h2;rw[List.getElem?_replicate]at h2;split at h2<;>cases h2
   have ha:vs[i]?=aj v:=by
    rw[pq (by simp;omega),nu,List.getElem?_cons_succ]at h2;cases e:vs[i]? with
    |none=>rw[e]at h2;cases h2
    |some a=>rw[e]at h2;cases h2;rfl
   obtain⟨uu,hu,rvv⟩:=r.get ha
   have hp:ps[i]?=aj n:=by
    have:=congrArg (λl=>l[i+1]?) S.pre;rw[a1w (by omega)]at this;have h1:N[i+1]?=aj n:=h1;rw[h1]at this;simpa using this.symm
   have ndP:ps.Nodup:=by
    have:(x::ps).Nodup:=by rw[←S.pre];exact S.nd.sublist (List.take_sublist _ _)
    exact(vo.mp this).2
   have k:=S.par n (lq hp);exact⟨uu,rvv,.inl ⟨k,a1E ndP hp hu k⟩⟩
 .rcases split n c h with a|⟨rfl,rfl⟩
  .exact⟨_,(y.cell n c a).1⟩
  .obtain⟨o,ho,hod⟩:=hc;exact⟨_,o,hk _ _ ho,hod⟩
 .rcases split n c h with a|⟨rfl,rfl⟩
  .exact e0.hok.fresh (ur (lt _ _ a))
  .exact hH
 .unfold start;show _=N.length;rw[vp,jc,List.length_replicate];simp;omega
end
section
section
end
end
variable{name:Str}{params:Arguments}{body:jf}
section
open PySem.W
section
variable{X:Cx}{pins:List (bx×Obj)}
theorem aBW{A:iw}{firstLine:Nat}(I:Inv X pins σ H s)(hT:H T=aj (.xH ps))(st:zH H qual pos ps)(C:CodeHd X.base c T)(hb:X.base.BuiltinsAt X.mg T)(hcode:X.env.code=.ref c)(hcl:closureFor scope X.env=pure clos)
  (h:∀f c' ctv ps' H' s',Inv X pins σ H' s'->H f=aq->H' f=aj (frO (kla_obj name qual params body scope clos ((X.mg "__name__").getD .none) c' ctv))->xM H' c' qual->H' T=aj (.xH ps')->zH H' qual pos ps'->(∀b u,b≠T->H b=aj u->H' b=aj u)->Q (.ref f) s') :
  cu (fj X.prog X.w) A (makeFunction name qual params (.expr body) scope X.env [] [] [] pos firstLine) Q E s:=by
 have hP:s.heap.get? T=aj (tabObj ps):=I.hok T _ hT;have hg:s.heap.Ns ji X.mg:=I.mod.glob.keeps I.bk;have hC:CodeHd s.heap c T:=C.keeps I.bk
 have hgT:ji≠T:=λz=>by
  obtain⟨o,es,ep,q,d,_⟩:=hg;rw[z,hP]at q;cases q;cases d
 have hbs:s.heap.BuiltinsAt X.mg T:=by
  obtain⟨bm,o,b1,b2,b3,b4,b5,b6⟩:=hb;exact⟨bm,o,b1,b2,b3,b4,I.bk _ _ b5,b6⟩
 rcases id st with st0|⟨c',e,rec⟩
 .subst st0;refine kla_makeFunction (mg:=X.mg) hcl I.ok.glob hg hcode hC hP trivial rfl hgT hbs λc' ctv h' tk hx hge hlt hrec htb=>?_;obtain⟨c₂,oc,vs,t,e2,hoc,hd,hv⟩:=hrec;cases e2;have I1:=I.grow (t':=s.toks) (c':=c') hT (λb u n q=>hx b u n q) htb hge hoc;have fr:H c'=aq:=I.hok.fresh hge;have tc:T≠c':=bW hT fr;have ff:H h'.objs.size=aq:=I.hok.fresh (qz hge (ur hlt));have I2:=I1.laid (t':=tk) (o:=frO (kla_obj name qual params body scope clos ((X.mg "__name__").getD .none) c' ctv)) (λb u q=>cg _ q) (dw _) (a5M (gV _ rfl));have n1:c'≠h'.objs.size:=jd hlt;have n2:T≠h'.objs.size:=bW hT ff;have rc:xM (upd (upd (upd H T (.xH (#[]++#[yg pos.line,yg pos.col,.ref c']))) c' (frO oc)) h'.objs.size (frO (kla_obj name qual params body scope clos ((X.mg "__name__").getD .none) c' ctv))) c' qual:=⟨oc,vs,t,by rw[aJ n1,aF],hd,hv⟩;refine h h'.objs.size c' ctv _ _ _ I2 ff aF rc (by rw[aJ n2,aJ tc,aF]) (.inr ⟨c',by simp,rc⟩) λb u hb q=>?_;rw[aJ (bW q ff),aJ (bW q fr),aJ hb];exact q
 .subst e;have hf:codeAmong pos (#[yg pos.line,yg pos.col,bh.ref c']:Array bh).toList=aj (.ref c'):=by simp[codeAmong,yg]
  refine kla_makeFunctionHit (mg:=X.mg) hcl I.ok.glob hg hcode hC hP trivial hf hbs λctv h' tk hk hsz=>?_;have ff:H h'.objs.size=aq:=I.hok.fresh hsz;have I1:=I.kept (t':=s.toks) hk;have I2:=I1.laid (t':=tk) (o:=frO (kla_obj name qual params body scope clos ((X.mg "__name__").getD .none) c' ctv)) (λb u q=>cg _ q) (dw _) (a5M (gV _ rfl));have kf:∀b u,H b=aj u->upd H h'.objs.size (frO (kla_obj name qual params body scope clos ((X.mg "__name__").getD .none) c' ctv)) b=aj u:=λb u q=>by rw[aJ (bW q ff)];exact q
  exact h h'.objs.size c' ctv _ _ _ I2 ff aF (rec.keep λa o u q=>kf a _ q) (kf _ _ hT) (.inr ⟨c',rfl,rec.keep λa o u q=>kf a _ q⟩) λb u _ q=>kf b u q
end
theorem auV{w:iy}{K:ig}{k:Nat}{N ps:List Str}(S:ScX N ps x scope)(a5O:∀y∈scope.names,y.1=x->y.2≠.cell)
  {A:iw}{s:cj}{vs:List V}{Q:VK} 
  (hr:d9 qt (k+1) A)(e0:yD P w K mg base A outer s H)(hf:H f=aj (frO (kla_obj name qual params body scope [(x,cc)] pm c' ctv)))(rc:xM H c' qual)(hc:s.heap.IsCell cc (aj u))(hH:H cc=aq)(rv:RelV vv u)
  (hb:zj (kla_fn name qual params body scope [(x,cc)] pm (.ref c') ctv) args=pure (ps.zip us))(r:Vals vs us)(hl:vs.length=ps.length)(hCX:∀e s',CX outer H s (λ_ _ _=>False) e s'->False)
  (hbody:d9 qt k (A.deeper (nG qual scope s.heap.objs.size f (.ref c') [(x,cc)]))->∃t,PE (cxX qt CX P w K mg base N qual scope f (.ref c') x cc A outer s H (λ_ _ _=>False)) body t/\t (start N (vv::vs)) H Q) :
  yu (fj P w) A (.call (.ref f) args) (CR CX outer P w H s Q E) s:=by
 have of':s.heap.get? f=aj (kla_obj name qual params body scope [(x,cc)] pm c' ctv):=(e0.hok f _ hf).1;have lim:s.heap.NoLimit:=e0.mod.nolimit.keeps λb o e=>(e0.bs b o e).1
 have hrec:s.heap.CodeRec (.ref c') qual:=by
  obtain⟨oo,vs',t,e,d,q⟩:=rc;exact⟨c',oo,vs',t,rfl,(e0.hok c' _ e).1,d,q⟩
 have hloc:∀y∈ps.zip us,scope.names.lookup y.1=aj .local:=λ⟨n,v⟩ hy=>S.par n (a2l hy).1;refine kla_callFunE hr.depth of' rfl S.co S.gen rfl hrec ?_;rw[hb];refine dh (auU S.kind hloc λs1 y=>⟨lim.keeps y.call.keep,kla_codeExpr ?_⟩);obtain⟨t,ht,hq⟩:=hbody (hr.deeper _);have I:Inv (cxX qt CX P w K mg base N qual scope f (.ref c') x cc A outer s H (λ_ _ _=>False)) [] (start N (vv::vs)) H s1:=agR S a5O hr.hd e0 hl r hc hH rv y;exact lg (ht [] s1 (start N (vv::vs)) H _ I hq) (by rintro u' s' ⟨v,H',J,rv',q⟩;exact⟨v,H',J.os,J.bare,J.base,J.hok,rv',q⟩) λe s' hs=>lg hs (λ_ s'' z=>(hCX _ _ z).elim) λe' s'' z=>(hCX _ _ z).elim
end
variable{b p:bx}{pins:List (bx×Obj)}
section
inductive D where
 |non|bl (b:Bool)|int (i:Int)|str (x:Str)|tup (xs:List D)|ref (a:bx)|ty (n:String)
noncomputable abbrev Fg:=ig
abbrev adC(H:Hp)(a:bx)(xs:List V):Prop:=True
theorem adD(h:H a=aj (.tup xs)):adC H a xs:=trivial
mutual
inductive RD(K:Fg)(H:Hp):D->V->Prop where
 |non:RD K H .non .non
 |bl (b:Bool):RD K H (.bl b) (.bl b)
 |int (i:Int):RD K H (.int i) (.int i)
 |str (x:Str):RD K H (.str x) (.str x)
 |ty (n:String):RD K H (.ty n) (.ty n)
 |ref (a:bx):RD K H (.ref a) (.ref a)
 |tup {a:bx} {xs:List V} {ds:List D}:oH K H a xs->bQ K H ds xs->adC H a xs->RD K H (.tup ds) (.ref a)
inductive bQ(K:Fg)(H:Hp):List D->List V->Prop where
 |nil:bQ K H [] []
 |cons {d:D} {v:V} {ds:List D} {vs:List V}:RD K H d v->bQ K H ds vs->bQ K H (d::ds) (v::vs)
end
structure Ts(H H':Hp):Prop where
 tups:∀a xs,H a=aj (.tup xs)->H' a=aj (.tup xs)
 fK:∀a o u,H a=aj (.gK o u)->H' a=aj (.gK o u)
theorem Ts.refl(H:Hp):Ts H H:=⟨λ_ _ h=>h,λ_ _ _ h=>h⟩
theorem Ts.trans(a:Ts H H1)(b:Ts H1 H2):Ts H H2:=⟨λc xs h=>b.tups c xs (a.tups c xs h),λc o u h=>b.fK c o u (a.fK c o u h)⟩
theorem Ts.same(s:Same H H'):Ts H H':=⟨λa _ h=>s a _ h,λa _ _ h=>s a _ h⟩
theorem Ts.rd(t:Ts H H')(h:Rd H a (.tup xs)):Rd H' a (.tup xs):=by
 rcases h with h|⟨o,h⟩
 .exact .inl (t.tups _ _ h)
 .exact .inr ⟨o,t.fK _ _ _ h⟩
theorem Ts.sqT{K:Fg}(t:Ts H H')(h:oH K H a xs):oH K H' a xs:=h.elim (λq=>.inl (t.rd q)) .inr
theorem adC.mono(t:Ts H H')(h:adC H a xs):adC H' a xs:=trivial
theorem bB(h:H p=aq):Same H (upd H p o):=λb u e=>by
 rw[aJ (bW e h)];exact e
mutual
theorem RD.mono{K:Fg}{H H':Hp}(t:Ts H H'):∀{d:D}{v:V},RD K H d v->RD K H' d v
 |_,_,.non=>.non
 |_,_,.bl b=>.bl b
 |_,_,.int i=>.int i
 |_,_,.str x=>.str x
 |_,_,.ty n=>.ty n
 |_,_,.ref a=>.ref a
 |_,_,.tup h r e=>.tup (t.sqT h) (bQ.mono t r) (e.mono t)
theorem bQ.mono{K:Fg}{H H':Hp}(t:Ts H H'):∀{ds:List D}{vs:List V},bQ K H ds vs->bQ K H' ds vs
 |_,_,.nil=>.nil
 |_,_,.cons h r=>.cons (RD.mono t h) (bQ.mono t r)
end
section
variable{K:Fg}
theorem bQ.length:∀{ds:List D}{vs:List V},bQ K H ds vs->ds.length=vs.length
 |_,_,.nil=>rfl
 |_,_,.cons _ r=>congrArg (·+1) (bQ.length r)
theorem bQ.append:∀{ds:List D}{vs:List V}{es:List D}{ws:List V},bQ K H ds vs->bQ K H es ws->bQ K H (ds++es) (vs++ws)
 |_,_,_,_,.nil,s=>s
 |_,_,_,_,.cons h r,s=>.cons h (bQ.append r s)
theorem bQ.get:∀{ds:List D}{vs:List V}{i:Nat}{d:D},bQ K H ds vs->ds[i]?=aj d->∃v,vs[i]?=aj v/\RD K H d v
 |_,_,_,_,.nil,e=>by simp at e
 |_,_,0,_,.cons r _,e=>by simp at e;subst e;exact⟨_,rfl,r⟩
 |_,_,i+1,d,.cons _ t,e=>by
  obtain⟨u,h1,h2⟩:=bQ.get (i:=i) (d:=d) t (by simpa using e);exact⟨u,by simpa using h1,h2⟩
theorem bQ.adE:∀{ds:List D}{vs:List V}{i:Nat}{v:V},bQ K H ds vs->vs[i]?=aj v->∃d,ds[i]?=aj d/\RD K H d v
 |_,_,_,_,.nil,e=>by simp at e
 |_,_,0,_,.cons r _,e=>by simp at e;subst e;exact⟨_,rfl,r⟩
 |_,_,i+1,d,.cons _ t,e=>by
  obtain⟨u,h1,h2⟩:=bQ.adE (i:=i) (v:=d) t (by simpa using e);exact⟨u,by simpa using h1,h2⟩
theorem bQ.set(r:RD K H d v):∀{ds:List D}{vs:List V}(i:Nat),bQ K H ds vs->bQ K H (ds.set i d) (vs.set i v)
 |_,_,_,.nil=>.nil
 |_,_,0,.cons _ t=>.cons r t
 |_,_,i+1,.cons q t=>.cons q (bQ.set r i t)
theorem bQ.drop:∀{ds:List D}{vs:List V}(n:Nat),bQ K H ds vs->bQ K H (ds.drop n) (vs.drop n)
 |_,_,0,r=>r
 |_,_,_+1,.nil=>.nil
 |_,_,n+1,.cons _ t=>bQ.drop n t
theorem bQ.take:∀{ds:List D}{vs:List V}(n:Nat),bQ K H ds vs->bQ K H (ds.take n) (vs.take n)
 |_,_,0,_=>.nil
 |_,_,_+1,.nil=>.nil
 |_,_,n+1,.cons r t=>.cons r (bQ.take n t)
theorem bQ.ints(ns:List Int):bQ K H (ns.map D.int) (ns.map V.int):=by
 induction ns with
 |nil=>exact .nil
 |cons n r ih=>exact .cons (.int n) ih
theorem bQ.zE(r:bQ K H ds vs):vs=[]↔ds=[]:=by
 cases r<;>simp
end
noncomputable abbrev DK:=Key ⊕ List Key
structure ao2 where
 name:Str
 qual:Str
 params:Arguments
 body:List kj
 scope:uh
 x:Str
inductive GO where
 |lst (ds:List D)|rol (ds:List D)|lF (t:Bool) (kvs:List (DK×D))|ins (C:bx) (fs:List (Str×D))|exn (C:bx)|rdc (o:Obj) (t:Bool) (kvs:List (DK×D))|tpl (ds:List D)|zJ (kvs:List (List Int×D))|tab (q:Str) (p:Pos)|clo (c:ao2) (d:D)
noncomputable abbrev Gp:=Addr->Option GO
noncomputable def aL(G:Gp)(a:bx)(o:GO):Gp:=λb=>if b=a then aj o else G b
theorem aH:aL G a o a=aj o:=by unfold aL;rw[if_pos rfl]
theorem bC(h:b≠a):aL G a o b=G b:=by unfold aL;rw[if_neg h]
theorem fU(h:G b=aj u)(n:G a=aq):aL G a o b=aj u:=by
 rw[bC];exact h;intro e;subst e;rw[h]at n;cases n
def Le(G G':Gp):Prop:=∀a o,G a=aj o->G' a=aj o
theorem Le.refl(G:Gp):Le G G:=λ_ _ h=>h
theorem Le.trans(a:Le G G1)(b:Le G1 G2):Le G G2:=λc o h=>b c o (a c o h)
theorem Le.new(n:G a=aq):Le G (aL G a o):=λ_ _ h=>fU h n
theorem Le.free(l:Le G G')(h:G' a=aq):G a=aq:=by
 cases q:G a with
 |none=>rfl
 |some o=>have:=l a o q;rw[h]at this;cases this
noncomputable def kD:Key->D
 |.inl i=>.int i
 |.inr x=>.str x
noncomputable def dkD:DK->D
 |.inl k=>kD k
 |.inr ks=>.tup (ks.map kD)
inductive Two{α β:Type}(P:α->β->Prop):List α->List β->Prop where
 |nil:Two P [] []
 |cons {a:α} {b:β} {as:List α} {bs:List β}:P a b->Two P as bs->Two P (a::as) (b::bs)
theorem Two.imp{α β:Type}{P Q:α->β->Prop}(f:∀a b,P a b->Q a b):∀{as:List α}{bs:List β},Two P as bs->Two Q as bs
 |_,_,.nil=>.nil
 |_,_,.cons h r=>.cons (f _ _ h) (Two.imp f r)
theorem Two.length{α β:Type}{P:α->β->Prop}:∀{as:List α}{bs:List β},Two P as bs->as.length=bs.length
 |_,_,.nil=>rfl
 |_,_,.cons _ r=>congrArg (·+1) (Two.length r)
def xO(C a:bx)(h:jj):Prop:=∃o vs,h.get? a=aj o/\o.cls=.ref C/\o.data=.fields vs
noncomputable def toI(ks:List Key):List Int:=ks.map λk=>match k with
 |.inl i=>i
 |.inr _=>0
theorem abB(ns:List Int):toI (ns.map Sum.inl)=ns:=by
 unfold toI;rw[mj];exact List.map_id _
def al2(P:jt)(w:iy)(a:bx)(xs:List (List Key×bx×bh))(h:jj):Prop:=(a==vd)=ao/\∃o es ep,h.get? a=aj o/\o.ExactDict/\o.data=.dict es ep/\es.toList=xs.map (entryOfKey (zu (bH P w)))/\(xs.map (·.1)).Nodup
def PlV(d:D)(u:bh):Prop:=(∃i t,d=.int i/\u=bh.int i t)∨∃b,d=.bl b/\u=bh.bool b
def KmR(K:Fg)(H:Hp)(p:List Int×D)(x:List Key×bx×bh):Prop:=x.1=p.1.map Sum.inl/\oH K H x.2.1 (x.1.map kV)/\PlV p.2 x.2.2
noncomputable def OR(K:Fg)(H:Hp)(a:bx):GO->Prop
 |.lst ds=>∃xs,H a=aj (.lst xs)/\bQ K H ds xs
 |.rol ds=>∃xs,pO K H a xs/\bQ K H ds xs
 |.lF t kvs=>(t=ao/\∃xs:List (Key×V),H a=aj (.dK xs)/\Two (λp q=>p.1=.inl q.1/\RD K H p.2 q.2) kvs xs) ∨
   (t=ak/\∃xs:List (List Key×V),H a=aj (.dT xs)/\Two (λp q=>p.1=.inr q.1/\RD K H p.2 q.2) kvs xs)
 |.ins C fs=>∃(dx:bx)(vs:List (Str×V)),H a=aj (.ins C dx vs)/\Two (λp q=>p.1=q.1/\RD K H p.2 q.2) fs vs
 |.rdc o t kvs=>(t=ao/\∃xs:List (Key×V),H a=aj (.gK o (.dK xs))/\Two (λp q=>p.1=.inl q.1/\RD K H p.2 q.2) kvs xs) ∨
   (t=ak/\∃xs:List (List Key×V),H a=aj (.gK o (.dT xs))/\Two (λp q=>p.1=.inr q.1/\RD K H p.2 q.2) kvs xs)
 |.tpl ds=>∃xs,oH K H a xs/\bQ K H ds xs
 |.tab q p=>∃ps,H a=aj (.xH ps)/\zH H q p ps
 |.clo c d=>∃(cc c':bx)(doc pm ctv:bh)(ob:Obj)(u:bh)(v:V),H a=aj (frO (PySem.W.fnMade c.name c.qual c.params c.body c.scope [(c.x,cc)] doc pm c' ctv))/\xM H c' c.qual/\H cc=aj (frO ob)/\ob.data=.cell (aj u)/\RelV v u/\RD K H d v
 |.zJ kvs=>∃o,H a=aj o/\((kvs=[]/\o=.dT [])∨∃(P:jt)(w:iy)(xs:List (List Key×bx×bh)),o=.ext (al2 P w a xs)/\Paired (KmR K H) kvs xs)
 |.exn C=>∃o vs,H a=aj (.gK o (.ext (xO C a)))/\o.data=.fields vs/\vs[2]?=aj .none
def HR(K:Fg)(H:Hp)(G:Gp):Prop:=∀a o,G a=aj o->OR K H a o
theorem OR.keep{K:Fg}(t:Ts H H')(h:OR K H a o)(k:∀u,H a=aj u->H' a=aj u):OR K H' a o:=by
 cases o with
 |lst ds=>obtain⟨xs,e,r⟩:=h;exact⟨xs,k _ e,r.mono t⟩
 |rol ds =>
  obtain⟨xs,e,r⟩:=h;refine⟨xs,?_,r.mono t⟩;rcases e with(e|⟨o,e⟩)|e
  .exact .inl (.inl (k _ e))
  .exact .inl (.inr ⟨o,k _ e⟩)
  .exact .inr e
 |lF b kvs =>
  rcases h with⟨z,xs,e,r⟩|⟨z,xs,e,r⟩
  .exact .inl ⟨z,xs,k _ e,r.imp λ_ _ q=>⟨q.1,q.2.mono t⟩⟩
  .exact .inr ⟨z,xs,k _ e,r.imp λ_ _ q=>⟨q.1,q.2.mono t⟩⟩
 |ins C fs=>obtain⟨dx,vs,e,r⟩:=h;exact⟨dx,vs,k _ e,r.imp λ_ _ q=>⟨q.1,q.2.mono t⟩⟩
 |rdc ob b kvs =>
  rcases h with⟨z,xs,e,r⟩|⟨z,xs,e,r⟩
  .exact .inl ⟨z,xs,k _ e,r.imp λ_ _ q=>⟨q.1,q.2.mono t⟩⟩
  .exact .inr ⟨z,xs,k _ e,r.imp λ_ _ q=>⟨q.1,q.2.mono t⟩⟩
 |exn C=>obtain⟨o,vs,e,r⟩:=h;exact⟨o,vs,k _ e,r⟩
 |tpl ds=>obtain⟨xs,e,r⟩:=h;exact⟨xs,t.sqT e,r.mono t⟩
 |zJ kvs=>obtain⟨o,e,q⟩:=h;exact⟨o,k _ e,q.imp id λ⟨P,w,xs,e2,r⟩=>⟨P,w,xs,e2,Paired.agD r λ_ _ z=>⟨z.1,t.sqT z.2.1,z.2.2⟩⟩⟩
 |tab q p=>obtain⟨ps,e,r⟩:=h;exact⟨ps,k _ e,r.keep λa o φ=>t.fK a o _⟩
 |clo c d=>obtain⟨cc,c',doc,pm,ctv,ob,u,v,e1,e2,e3,e4,e5,e6⟩:=h;exact⟨cc,c',doc,pm,ctv,ob,u,v,k _ e1,e2.keep λa o φ=>t.fK a o _,t.fK _ _ _ e3,e4,e5,e6.mono t⟩
theorem HR.same{K:Fg}(h:HR K H G)(s:Same H H'):HR K H' G:=λa o e=>(h a o e).keep (.same s) λu q=>s a u q
theorem HR.le{K:Fg}(h:HR K H G')(l:Le G G'):HR K H G:=λa o e=>h a o (l a o e)
theorem HR.put{K:Fg}(h:HR K H G)(n:H p=aq)(new:OR K (upd H p o) p u):HR K (upd H p o) (aL G p u):=λa v e=>by
 by_cases q:a=p
 .subst q;rw[aH]at e;cases e;exact new
 .rw[bC q]at e;exact(h a v e).keep (.same (bB n)) λw z=>bB n a w z
theorem HR.turn{K:Fg}(h:HR K H G)(t:Ts H (upd H p o))(new:OR K (upd H p o) p u):HR K (upd H p o) (aL G p u):=λa v e=>by
 by_cases q:a=p
 .subst q;rw[aH]at e;cases e;exact new
 .rw[bC q]at e;exact(h a v e).keep t λw z=>by rw[aJ q];exact z
theorem Ts.turn(e:H p=aj u)(h1:∀xs,u≠.tup xs)(h2:∀ob w,u≠.gK ob w):Ts H (upd H p o):=by
 refine⟨λa xs q=>?_,λa ob w q=>?_⟩
 .rw[aJ];exact q;intro z;subst z;rw[e]at q;exact h1 xs (jk.inj q)
 .rw[aJ];exact q;intro z;subst z;rw[e]at q;exact h2 ob w (jk.inj q)
noncomputable abbrev aN:=List (Option D)
abbrev fL:=D->Gp->Prop
abbrev cB:=aN->Gp->fL->Prop
abbrev xP:=aN->Gp->(Bool->Gp->Prop)->Prop
abbrev nH:=aN->Gp->(List D->Gp->Prop)->Prop
noncomputable def at3:aN->Nat->Option D
 |[],_=>aq
 |x::_,0=>x
 |_::r,n+1=>at3 r n
noncomputable def xD:aN->Nat->D->aN
 |[],_,_=>[]
 |_::r,0,d=>aj d::r
 |x::r,n+1,d=>x::xD r n d
inductive SR(K:Fg)(H:Hp):aN->St->Prop where
 |nil:SR K H [] []
 |none {ρ:aN} {σ:St} {v:Option V}:SR K H ρ σ->SR K H (a1c::ρ) (v::σ)
 |some {ρ:aN} {σ:St} {d:D} {v:V}:RD K H d v->SR K H ρ σ->SR K H (jk d::ρ) (jk v::σ)
theorem SR.mono{K:Fg}(t:Ts H H'):∀{ρ:aN}{σ:St},SR K H ρ σ->SR K H' ρ σ
 |_,_,.nil=>.nil
 |_,_,.none r=>.none (SR.mono t r)
 |_,_,.some h r=>.some (h.mono t) (SR.mono t r)
theorem SR.get{K:Fg}:∀{ρ:aN}{σ:St}{i:Nat}{d:D},SR K H ρ σ->at3 ρ i=jk d->∃v,σ[i]?=jk (jk v)/\RD K H d v
 |_,_,_,_,.nil,e=>by simp[at3]at e
 |_,_,0,_,.none _,e=>by simp[at3]at e
 |_,_,0,_,.some h _,e=>by simp[at3]at e;subst e;exact⟨_,rfl,h⟩
 |_,_,i+1,_,.none r,e=>by
  obtain⟨v,h1,h2⟩:=SR.get (i:=i) r (by simpa[at3]using e);exact⟨v,by simpa using h1,h2⟩
 |_,_,i+1,_,.some _ r,e=>by
  obtain⟨v,h1,h2⟩:=SR.get (i:=i) r (by simpa[at3]using e);exact⟨v,by simpa using h1,h2⟩
theorem SR.set{K:Fg}(q:RD K H d v):∀{ρ:aN}{σ:St}(i:Nat),SR K H ρ σ->SR K H (xD ρ i d) (σ.set i (jk v))
 |_,_,_,.nil=>.nil
 |_,_,0,.none r=>.some q r
 |_,_,0,.some _ r=>.some q r
 |_,_,i+1,.none r=>.none (SR.set q i r)
 |_,_,i+1,.some h r=>.some h (SR.set q i r)
theorem SR.len{K:Fg}:∀{ρ:aN}{σ:St},SR K H ρ σ->ρ.length=σ.length
 |_,_,.nil=>rfl
 |_,_,.none r=>congrArg (·+1) (SR.len r)
 |_,_,.some _ r=>congrArg (·+1) (SR.len r)
noncomputable def rN(n:Nat)(ds:List D):aN:=ds.map jk++a0o (n - ds.length) a1c
theorem SR.nones{K:Fg}:∀n:Nat,SR K H (a0o n a1c) (a0o n a1c)
 |0=>.nil
 |n+1=>.none (SR.nones n)
theorem SR.entry{K:Fg}{k:Nat}:∀{ds:List D}{vs:List V},bQ K H ds vs->SR K H (ds.map jk++a0o k a1c) (vs.map jk++a0o k a1c)
 |_,_,.nil=>SR.nones k
 |_,_,.cons h r=>.some h (SR.entry r)
noncomputable def upE(K:Fg)(t:cB):TE:=λσ H Q=>∃ρ G R,SR K H ρ σ/\HR K H G/\t ρ G R/\∀v H' d G',Ts H H'->RD K H' d v->HR K H' G'->R d G'->Q v H'
noncomputable def upT(K:Fg)(t:xP):TT:=λσ H Q=>∃ρ G R,SR K H ρ σ/\HR K H G/\t ρ G R/\∀b H' G',Ts H H'->HR K H' G'->R b G'->Q b H'
noncomputable def upA(K:Fg)(t:nH):TA:=λσ H Q=>∃ρ G R,SR K H ρ σ/\HR K H G/\t ρ G R/\∀vs H' ds G',Ts H H'->bQ K H' ds vs->HR K H' G'->R ds G'->Q vs H'
abbrev cF(X:Cx)(e:jf)(t:cB):Prop:=PE X e (upE X.K t)
abbrev PT3(X:Cx)(e:jf)(t:xP):Prop:=PT X e (upT X.K t)
abbrev PW3(X:Cx)(e:jf)(t:xP):Prop:=PW X e (upT X.K t)
abbrev PA3(X:Cx)(es:List jf)(t:nH):Prop:=PA X es (upA X.K t)
structure cQ where
 nx:aN->Gp->Prop
 rt:fL
 bk:aN->Gp->Prop:=λ_ _=>False
 ct:aN->Gp->Prop:=λ_ _=>False
abbrev bI:=cQ->aN->Gp->Prop
structure UpD(K:Fg)(E:cQ)(F:Ends):Prop where
 nx:∀ρ G σ H',SR K H' ρ σ->HR K H' G->E.nx ρ G->F.nx σ H'
 rt:∀d G v H',RD K H' d v->HR K H' G->E.rt d G->F.rt v H'
 bk:∀ρ G σ H',SR K H' ρ σ->HR K H' G->E.bk ρ G->F.bk σ H'
 ct:∀ρ G σ H',SR K H' ρ σ->HR K H' G->E.ct ρ G->F.ct σ H'
noncomputable def upS(K:Fg)(t:bI):TS:=λF σ H=>∃ρ G E,SR K H ρ σ/\HR K H G/\t E ρ G/\UpD K E F
abbrev PS3(X:Cx)(st:kj)(t:bI):Prop:=PS X st (upS X.K t)
abbrev xE(X:Cx)(st:List kj)(t:bI):Prop:=PSs X st (upS X.K t)
section
variable{X:Cx}
theorem PE.imp{t:TE}(h:PE X e t)(k:∀σ H Q,t' σ H Q->t σ H Q):PE X e t':=λpins s σ H Q I q=>h pins s σ H Q I (k _ _ _ q)
theorem PT.imp{t:TT}(h:PT X e t)(k:∀σ H Q,t' σ H Q->t σ H Q):PT X e t':=λpins s σ H Q I q=>h pins s σ H Q I (k _ _ _ q)
theorem PW.imp{t:TT}(h:PW X e t)(k:∀σ H Q,t' σ H Q->t σ H Q):PW X e t':=λwh pins s σ H Q I q=>h wh pins s σ H Q I (k _ _ _ q)
theorem PA.imp{t:TA}(h:PA X e t)(k:∀σ H Q,t' σ H Q->t σ H Q):PA X e t':=λp pins s σ H Q I q=>h p pins s σ H Q I (k _ _ _ q)
theorem PS.imp{t:TS}(h:PS X e t)(k:∀F σ H,t' F σ H->t F σ H):PS X e t':=λpins s σ H F I q=>h pins s σ H F I (k _ _ _ q)
def KF(K:Fg)(H:Hp):Prop:=∀b o,K.lookup b=aj o->H b=aq
theorem oM(I:Inv X pins σ H s):KF X.K H:=λb o e=>(I.bs b o (I.ok.mod.kin b o e)).2
theorem PE.kf{t:TE}(h:PE X e t):PE X e (λσ H Q=>t σ H λv H'=>KF X.K H'->Q v H'):=λpins s σ H Q I q =>
 cL (h pins s σ H _ I q) λ_ _ ⟨v,H',I',r,q'⟩=>⟨v,H',I',r,q' (oM I')⟩
theorem PSs.imp{t:TS}(h:PSs X e t)(k:∀F σ H,t' F σ H->t F σ H):PSs X e t':=λpins s σ H F I q=>h pins s σ H F I (k _ _ _ q)
end
theorem gP{K:Fg}(g:HR K H G)(n:H p=aq)(k:KF K (upd H p o)):G p=aq:=by
 have kn:K.lookup p=aq:=by
  cases q:K.lookup p with
  |none=>rfl
  |some u=>have:=k p u q;rw[aF]at this;cases this
 cases q:G p with
 |none=>rfl
 |some u =>
  have z:=g p u q;cases u with
  |lst ds=>obtain⟨xs,e,_⟩:=z;rw[n]at e;cases e
  |rol ds =>
   obtain⟨xs,e,_⟩:=z;rcases e with(e|⟨o,e⟩)|⟨o,_,_,e,_⟩
   .rw[n]at e;cases e
   .rw[n]at e;cases e
   .rw[kn]at e;cases e
  |lF tt kvs =>
   rcases z with⟨_,xs,e,_⟩|⟨_,xs,e,_⟩
   .rw[n]at e;cases e
   .rw[n]at e;cases e
  |rdc ob tt kvs =>
   rcases z with⟨_,xs,e,_⟩|⟨_,xs,e,_⟩
   .rw[n]at e;cases e
   .rw[n]at e;cases e
  |ins C fs=>obtain⟨dx,vs,e,_⟩:=z;rw[n]at e;cases e
  |exn C=>obtain⟨o,vs,e,_⟩:=z;rw[n]at e;cases e
  |zJ kvs=>obtain⟨_,e,_⟩:=z;rw[n]at e;cases e
  |tab q p=>obtain⟨_,e,_⟩:=z;rw[n]at e;cases e
  |clo c d=>obtain⟨_,_,_,_,_,_,_,_,e,_⟩:=z;rw[n]at e;cases e
  |tpl ds =>
   obtain⟨xs,e,_⟩:=z;rcases e with(e|⟨o,e⟩)|⟨o,_,_,e,_⟩
   .rw[n]at e;cases e
   .rw[n]at e;cases e
   .rw[kn]at e;cases e
section
variable{X:Cx}{b c:jf}{ta tb tc:cB}{pos:Pos}
noncomputable def aB(i:Nat):cB:=λρ G R=>match at3 ρ i with
 |some d=>R d G
 |none=>False
noncomputable def aO(d:D):cB:=λ_ G R=>R d G
set_option tactic.hygienic true in
theorem aBX{K:Fg}{i:Nat}{Q:VK}(h:upE K (aB i) σ H Q):aAO i σ H Q:=by
 obtain⟨ρ,G,R,s,g,t,k⟩:=h;unfold aB at t;split at t
 .rename_i d e;obtain⟨v,h1,h2⟩:=s.get e;exact⟨v,h1,k v H d G (.refl H) h2 g t⟩
 .exact t.elim
theorem al5{K:Fg}(r:∀H,RD K H d v){Q:VK}(h:upE K (aO d) σ H Q):tC v σ H Q:=by
 obtain⟨ρ,G,R,s,g,t,k⟩:=h;exact k v H d G (.refl H) (r H) g t
theorem azD(i:Nat)(hN:X.N[i]?=aj x:=by rfl)(hv:Vis X.env.scope x:=by first|exact Or.inl rfl|exact Or.inr (Or.inl rfl)|exact Or.inr (Or.inr rfl))(hd:(x==("__debug__":Str))=ao:=by decide)
  (hcd:(x==("__classdict__":Str))=ao:=by decide):cF X (.Name x pos) (aB i):=PE.imp (an7 hN hv hd hcd) λ_ _ _ h=>aBX h
theorem aHP{i j pos}:cF X (.Constant (.int i) j pos) (aO (.int i)):=PE.imp aAP λ_ _ _ h=>al5 (λ_=>.int i) h
theorem aN8{b j pos}:cF X (.Constant (.bool b) j pos) (aO (.bl b)):=PE.imp aGN λ_ _ _ h=>al5 (λ_=>.bl b) h
theorem aHQ{j pos}:cF X (.Constant .none j pos) (aO .non):=PE.imp aAQ λ_ _ _ h=>al5 (λ_=>.non) h
theorem aHR{x j pos}:cF X (.Constant (.str x) j pos) (aO (.str x)):=PE.imp aAR λ_ _ _ h=>al5 (λ_=>.str x) h
theorem ao3(hg:Gl X x)(hm:X.mg x=aj u)(r:RelV v u)(rd:∀H,RD X.K H d v)(hd:(x==("__debug__":Str))=ao:=by decide):cF X (.Name x pos) (aO d) :=
 PE.imp (au2 hg hm r hd) λ_ _ _ h=>al5 rd h
theorem aBY{n:String}(hg:Gl X x)(hm:X.mg x=aq)(hv:jr x=aj (.type n))(hn:x≠"__name__":=by decide)(hd:(x==("__debug__":Str))=ao:=by decide):cF X (.Name x pos) (aO (.ty n)) :=
 PE.imp (au3 hg hm hv (v:=.ty n) rfl hn hd) λ_ _ _ h=>al5 (λ_=>.ty n) h
abbrev R3:=D->D->Gp->fL->Prop
def OpI(K:Fg)(r:R2)(r3:R3):Prop:=∀(H:Hp)(x y:D)(vx vy:V)(G:Gp)(R:fL)(Q:VK),RD K H x vx->RD K H y vy->HR K H G->r3 x y G R->(∀v H' d G',Ts H H'->RD K H' d v->HR K H' G'->R d G'->Q v H')->r vx vy H λv H'=>KF K H'->Q v H'
def a5P(X:Cx)(f:bh->bh->Sem bh)(r3:R3):Prop:=∃r,pJ X f r/\OpI X.K r r3
def OpC(K:Fg)(r:R2)(r3:R3):Prop:=∀(H:Hp)(x y:D)(vx vy:V)(G:Gp)(R:fL)(Q:VK),RD K H x vx->RD K H y vy->HR K H G->r3 x y G R->(∀v H' d G',Ts H H'->RD K H' d v->HR K H' G'->R d G'->Q v H')->r vx vy H Q
def lU(X:Cx)(f:bh->bh->Sem bh)(r3:R3):Prop:=∃r,pJ X f r/\OpC X.K r r3
noncomputable def aG(r:R3)(ta tb:cB):cB:=λρ G R=>ta ρ G λx G1=>tb ρ G1 λy G2=>r x y G2 R
variable{r3:R3}
theorem aHS{K:Fg}(o:OpI K r r3){Q:VK}(h:upE K (aG r3 ta tb) σ H Q):tOp r (upE K ta) (upE K tb) σ H λv H'=>KF K H'->Q v H':=by
 obtain⟨ρ,G,R,s,g,t,k⟩:=h;refine⟨ρ,G,_,s,g,t,λvx H1 x G1 t1 rx g1 t'=>?_⟩;refine⟨ρ,G1,_,s.mono t1,g1,t',λvy H2 y G2 t2 ry g2 t''=>?_⟩;exact o H2 x y vx vy G2 R Q (rx.mono t2) ry g2 t'' λv H' d G' t3=>k v H' d G' ((t1.trans t2).trans t3)
theorem agS{K:Fg}(o:OpC K r r3){Q:VK}(h:upE K (aG r3 ta tb) σ H Q):tOp r (upE K ta) (upE K tb) σ H Q:=by
 obtain⟨ρ,G,R,s,g,t,k⟩:=h;refine⟨ρ,G,_,s,g,t,λvx H1 x G1 t1 rx g1 t'=>?_⟩;refine⟨ρ,G1,_,s.mono t1,g1,t',λvy H2 y G2 t2 ry g2 t''=>?_⟩;exact o H2 x y vx vy G2 R Q (rx.mono t2) ry g2 t'' λv H' d G' t3=>k v H' d G' ((t1.trans t2).trans t3)
theorem aN9(o:a5P X (wg op) r3)(ha:cF X a ta)(hb:cF X b tb):cF X (.BinOp a op b pos) (aG r3 ta tb):=by
 obtain⟨r,o1,o2⟩:=o;exact PE.imp (PE.kf (aH2 o1 ha hb)) λ_ _ _ h=>aHS o2 h
theorem ao4(o:lU X (jg op) r3)(ha:cF X a ta)(hb:cF X b tb)(hm:yq op b=ao):cF X (.Compare a [op] [b] pos) (aG r3 ta tb):=by
 obtain⟨r,o1,o2⟩:=o;exact PE.imp (auD o1 ha hb hm) λ_ _ _ h=>agS o2 h
noncomputable def aQ(t:cB):xP:=λρ G R=>t ρ G λx G1=>match x with
 |.bl k=>R k G1
 |_=>False
theorem abC{K:Fg}{t:TE}(f:∀σ H Q,upE K t3 σ H Q->t σ H Q)(h:upT K (aQ t3) σ H Q):anF t σ H Q:=by
 obtain⟨ρ,G,R,s,g,u,k⟩:=h;refine f _ _ _ ⟨ρ,G,_,s,g,u,λv H' d G' t1 r g1 q=>?_⟩;cases r with
 |bl b=>exact⟨b,rfl,k b H' G' t1 g1 q⟩
 |_=>exact q.elim
theorem ao5(o:lU X (jg op) r3)(ha:cF X a ta)(hb:cF X b tb)(hm:yq op b=ao):PT3 X (.Compare a [op] [b] pos) (aQ (aG r3 ta tb)):=by
 obtain⟨r,o1,o2⟩:=o;exact PT.imp (auE o1 ha hb hm) λ_ _ _ h=>abC (λ_ _ _=>agS o2) h
theorem aHT{e:jf}{t:cB}(h:cF X e t)(he:∀whole,isTrue e X.env whole=(do let v ←whole;standAt e.pos;a0g [v] (truthy v)):=by intro _;rfl):PT3 X e (aQ t) :=
 PT.imp (aAS h he) λ_ _ _ h=>abC (λ_ _ _ q=>q) h
noncomputable def oN(r r':R3)(ta tb tc:cB):cB:=λρ G R=>ta ρ G λx G1=>tb ρ G1 λy G2=>r x y G2 λz G3=>match z with
 |.bl ak=>tc ρ G3 λw G4=>r' y w G4 R
 |.bl ao=>R (.bl ao) G3
 |_=>False
variable{r3':R3}
theorem adG{K:Fg}(o:OpC K r r3)(o':OpC K r' r3'){Q:VK}(h:upE K (oN r3 r3' ta tb tc) σ H Q):agG r r' (upE K ta) (upE K tb) (upE K tc) σ H Q:=by
 obtain⟨ρ,G,R,s,g,t,k⟩:=h;refine⟨ρ,G,_,s,g,t,λvx H1 x G1 t1 rx g1 t'=>?_⟩;refine⟨ρ,G1,_,s.mono t1,g1,t',λvy H2 y G2 t2 ry g2 t''=>?_⟩;refine o H2 x y vx vy G2 _ _ (rx.mono t2) ry g2 t'' λv H3 d G3 t3 rd g3 q=>?_;cases rd with
 |bl b =>
  refine⟨b,rfl,?_⟩;cases b with
  |true =>
   rw[if_pos rfl];refine⟨ρ,G3,_,s.mono ((t1.trans t2).trans t3),g3,q,λvw H4 w G4 t4 rw' g4 q'=>?_⟩;exact o' H4 y w vy vw G4 R Q (ry.mono (t3.trans t4)) rw' g4 q' λv H' d G' t5=>k v H' d G' (((t1.trans t2).trans t3).trans (t4.trans t5))
  |false =>
   rw[if_neg ou];exact k _ H3 _ G3 ((t1.trans t2).trans t3) (.bl ao) g3 q
 |_=>exact q.elim
theorem auW(o:lU X (jg op) r3)(o':lU X (jg op') r3')(ha:cF X a ta)(hb:cF X b tb)(hc:cF X c tc)
  (hm:lastMarks [op,op'] [b,c]=ao:=by with_unfolding_all rfl):cF X (.Compare a [op,op'] [b,c] pos) (oN r3 r3' ta tb tc):=by
 obtain⟨r,o1,o2⟩:=o;obtain⟨r',o1',o2'⟩:=o';exact PE.imp (anG o1 o1' ha hb hc hm) λ_ _ _ h=>adG o2 o2' h
theorem auX(o:lU X (jg op) r3)(o':lU X (jg op') r3')(ha:cF X a ta)(hb:cF X b tb)(hc:cF X c tc)
  (hm:lastMarks [op,op'] [b,c]=ao:=by with_unfolding_all rfl):PT3 X (.Compare a [op,op'] [b,c] pos) (aQ (oN r3 r3' ta tb tc)):=by
 obtain⟨r,o1,o2⟩:=o;obtain⟨r',o1',o2'⟩:=o';exact PT.imp (anH o1 o1' ha hb hc hm) λ_ _ _ h=>abC (λ_ _ _=>adG o2 o2') h
variable{sa:xP}{rest:List jf}
noncomputable def adH(t u:xP):xP:=λρ G R=>t ρ G λc G1=>if c=ak then u ρ G1 R else R ao G1
noncomputable def uD(t u:xP):xP:=λρ G R=>t ρ G λc G1=>if c=ak then R ak G1 else u ρ G1 R
noncomputable def j6(t:xP):xP:=λρ G R=>t ρ G λc G1=>R (!c) G1
theorem aBZ{K:Fg}(h:upT K (adH sa sb) σ H Q):aGO (upT K sa) (upT K sb) σ H Q:=by
 obtain⟨ρ,G,R,s,g,t,k⟩:=h;refine⟨ρ,G,_,s,g,t,λc H1 G1 t1 g1 q=>?_⟩;cases c with
 |true=>exact⟨ρ,G1,R,s.mono t1,g1,q,λb H' G' t2=>k b H' G' (t1.trans t2)⟩
 |false=>exact k ao H1 G1 t1 g1 q
theorem aHU{K:Fg}(h:upT K (uD sa sb) σ H Q):tOr (upT K sa) (upT K sb) σ H Q:=by
 obtain⟨ρ,G,R,s,g,t,k⟩:=h;refine⟨ρ,G,_,s,g,t,λc H1 G1 t1 g1 q=>?_⟩;cases c with
 |false=>exact⟨ρ,G1,R,s.mono t1,g1,q,λb H' G' t2=>k b H' G' (t1.trans t2)⟩
 |true=>exact k ak H1 G1 t1 g1 q
theorem aC0(ha:PT3 X a sa):PW3 X (.BoolOp .And [a] pos) sa:=au4 ha
theorem aHV(ha:PT3 X a sa):PW3 X (.BoolOp .Or [a] pos) sa:=aAT ha
theorem aHW(ha:PT3 X a sa)(hb:PW3 X (.BoolOp .And (b::rest) pos) sb):PW3 X (.BoolOp .And (a::b::rest) pos) (adH sa sb):=PW.imp (aAU ha hb) λ_ _ _ h=>aBZ h
theorem aNA(ha:PT3 X a sa)(hb:PW3 X (.BoolOp .Or (b::rest) pos) sb):PW3 X (.BoolOp .Or (a::b::rest) pos) (uD sa sb):=PW.imp (aGQ ha hb) λ_ _ _ h=>aHU h
theorem aHX(ha:PT3 X a sa):PT3 X (.UnaryOp .Not a pos) (j6 sa):=PT.imp (aAV ha) λσ H Q h=>by
 obtain⟨ρ,G,R,s,g,t,k⟩:=h;exact⟨ρ,G,_,s,g,t,λc H1 G1 t1 g1 q=>k (!c) H1 G1 t1 g1 q⟩
noncomputable def nJ(ta tb:cB):cB:=λρ G R=>ta ρ G λx G1=>match x with
 |.bl ak=>tb ρ G1 R
 |.bl ao=>R (.bl ao) G1
 |_=>False
noncomputable def azE(ta tb:cB):cB:=λρ G R=>ta ρ G λx G1=>match x with
 |.bl ak=>R (.bl ak) G1
 |.bl ao=>tb ρ G1 R
 |_=>False
noncomputable def a5Q(ta:cB):cB:=λρ G R=>ta ρ G λx G1=>match x with
 |.bl c=>R (.bl (!c)) G1
 |_=>False
theorem azF{op}(h:cF X a ta):cF X (.BoolOp op [a] pos) ta:=aAW h
theorem aHY(ha:cF X a ta)(hb:cF X (.BoolOp .And (b::rest) pos) tb):cF X (.BoolOp .And (a::b::rest) pos) (nJ ta tb):=PE.imp (aAX ha hb) λσ H Q h=>by
 obtain⟨ρ,G,R,s,g,t,k⟩:=h;refine⟨ρ,G,_,s,g,t,λv H1 x G1 t1 r g1 q=>?_⟩;cases r with
 |bl c =>
  refine⟨c,rfl,?_⟩;cases c with
  |true=>exact⟨ρ,G1,R,s.mono t1,g1,q,λb H' d G' t2=>k b H' d G' (t1.trans t2)⟩
  |false=>exact k _ H1 _ G1 t1 (.bl ao) g1 q
 |_=>exact q.elim
theorem aNB(ha:cF X a ta)(hb:cF X (.BoolOp .Or (b::rest) pos) tb):cF X (.BoolOp .Or (a::b::rest) pos) (azE ta tb):=PE.imp (aGT ha hb) λσ H Q h=>by
 obtain⟨ρ,G,R,s,g,t,k⟩:=h;refine⟨ρ,G,_,s,g,t,λv H1 x G1 t1 r g1 q=>?_⟩;cases r with
 |bl c =>
  refine⟨c,rfl,?_⟩;cases c with
  |false=>exact⟨ρ,G1,R,s.mono t1,g1,q,λb H' d G' t2=>k b H' d G' (t1.trans t2)⟩
  |true=>exact k _ H1 _ G1 t1 (.bl ak) g1 q
 |_=>exact q.elim
theorem aHZ(ha:cF X a ta):cF X (.UnaryOp .Not a pos) (a5Q ta):=PE.imp (aAY ha) λσ H Q h=>by
 obtain⟨ρ,G,R,s,g,t,k⟩:=h;refine⟨ρ,G,_,s,g,t,λv H1 x G1 t1 r g1 q=>?_⟩;cases r with
 |bl c=>exact⟨c,rfl,k _ H1 _ G1 t1 (.bl _) g1 q⟩
 |_=>exact q.elim
noncomputable def ao6(t:xP)(ta tb:cB):cB:=λρ G R=>t ρ G λc G1=>if c=ak then ta ρ G1 R else tb ρ G1 R
theorem auY{c:jf}(hc:PT3 X c sa)(ha:cF X a ta)(hb:cF X b tb):cF X (.IfExp c a b pos) (ao6 sa ta tb):=PE.imp (an8 hc ha hb) λσ H Q h=>by
 obtain⟨ρ,G,R,s,g,t,k⟩:=h;refine⟨ρ,G,_,s,g,t,λc H1 G1 t1 g1 q=>?_⟩;cases c with
 |true=>exact⟨ρ,G1,R,s.mono t1,g1,q,λb H' d G' t2=>k b H' d G' (t1.trans t2)⟩
 |false=>exact⟨ρ,G1,R,s.mono t1,g1,q,λb H' d G' t2=>k b H' d G' (t1.trans t2)⟩
end
section
variable{X:Cx}{t:nH}{pos:Pos}
noncomputable def aC:nH:=λ_ G R=>R [] G
noncomputable def aA(ta:cB)(tr:nH):nH:=λρ G R=>ta ρ G λx G1=>tr ρ G1 λxs G2=>R (x::xs) G2
theorem tM:PA3 X [] aC:=PA.imp aBE λσ H Q h=>by
 obtain⟨ρ,G,R,s,g,t,k⟩:=h;exact k [] H [] G (.refl H) .nil g t
theorem dH(ha:cF X e te)(hr:PA3 X es t)(hs:je (e::es) X.env=(ao,eval e X.env)::je es X.env:=by rfl):PA3 X (e::es) (aA te t):=PA.imp (auF ha hr hs) λσ H Q h=>by
 obtain⟨ρ,G,R,s,g,t,k⟩:=h;refine⟨ρ,G,_,s,g,t,λv H1 x G1 t1 r g1 q=>?_⟩;refine⟨ρ,G1,_,s.mono t1,g1,q,λvs H2 xs G2 t2 rs g2 q'=>?_⟩;exact k (v::vs) H2 (x::xs) G2 (t1.trans t2) (.cons (r.mono t2) rs) g2 q'
noncomputable def bV(t:nH):cB:=λρ G R=>t ρ G λxs G1=>xs.length<=dg/\R (.tup xs) G1
noncomputable def gY(t:nH):cB:=λρ G R=>t ρ G λxs G1=>xs.length<=dg/\∀p,G1 p=aq->R (.ref p) (aL G1 p (.lst xs))
theorem azG{x1}(h:PA3 X es t):cF X (.Tuple es x1 pos) (bV t):=PE.imp (aBF h) λσ H Q h=>by
 obtain⟨ρ,G,R,s,g,t,k⟩:=h;refine⟨ρ,G,_,s,g,t,λvs H1 xs G1 t1 r g1 q=>?_⟩;refine⟨by rw[←r.length];exact q.1,λp hp=>?_⟩;have sn:Same H1 (upd H1 p (.tup vs)):=bB hp;exact k (.ref p) _ (.tup xs) G1 (t1.trans (.same sn)) (.tup (oH.of aF) (r.mono (.same sn)) (adD aF)) (g1.same sn) q.2
theorem aI0(h:PA3 X es t):cF X (.List es pos) (gY t):=PE.imp (PE.kf (aBG h)) λσ H Q h=>by
 obtain⟨ρ,G,R,s,g,t,k⟩:=h;refine⟨ρ,G,_,s,g,t,λvs H1 xs G1 t1 r g1 q=>?_⟩;refine⟨by rw[←r.length];exact q.1,λp hp kf=>?_⟩;have sn:Same H1 (upd H1 p (.lst vs)):=bB hp;exact k (.ref p) _ (.ref p) _ (t1.trans (.same sn)) (.ref p) (g1.put (u:=.lst xs) hp ⟨vs,aF,r.mono (.same sn)⟩) (q.2 p (gP g1 hp kf))
end
end
section
section
variable{X:Cx}{a b c:jf}{pos:Pos}
noncomputable def rI3(C:Int->Int->Prop)(g:Int->Int->Int):R3:=λx y G R=>match x,y with
 |.int i,.int j=>C i j/\R (.int (g i j)) G
 |_,_=>False
noncomputable def aI2(g:Int->Int->Int):R3:=λx y G R=>match x,y with
 |.int i,.int j=>R (.int (g i j)) G
 |_,_=>False
noncomputable def auZ(g:Int->Int->Bool):R3:=λx y G R=>match x,y with
 |.int i,.int j=>R (.bl (g i j)) G
 |_,_=>False
theorem aiL{g:Int->Int->Int}(h:pJ X f (rI C λi j=>.int (g i j))):a5P X f (rI3 C g):=by
 refine⟨_,h,λH x y vx vy G R Q rx ry gh h k=>?_⟩;cases rx with
 |int i =>
  cases ry with
  |int j=>exact⟨i,j,rfl,rfl,h.1,λ_=>k _ H _ G (.refl H) (.int _) gh h.2⟩
  |_=>exact False.elim h
 |_=>exact False.elim h
theorem aC1{g:Int->Int->Int}(h:pJ X f (rI0 λi j=>.int (g i j))):a5P X f (aI2 g):=by
 refine⟨_,h,λH x y vx vy G R Q rx ry gh h k=>?_⟩;cases rx with
 |int i =>
  cases ry with
  |int j=>exact⟨i,j,rfl,rfl,λ_=>k _ H _ G (.refl H) (.int _) gh h⟩
  |_=>exact False.elim h
 |_=>exact False.elim h
theorem agT{g:Int->Int->Bool}(h:pJ X f (rI0 λi j=>.bl (g i j))):lU X f (auZ g):=by
 refine⟨_,h,λH x y vx vy G R Q rx ry gh h k=>?_⟩;cases rx with
 |int i =>
  cases ry with
  |int j=>exact⟨i,j,rfl,rfl,k _ H _ G (.refl H) (.bl _) gh h⟩
  |_=>exact False.elim h
 |_=>exact False.elim h
noncomputable def tO:R3:=aI2 λi j=>i - j
noncomputable def pQ:R3:=rI3 anE λi j=>i*j
noncomputable def gQ:R3:=rI3 aB6 λi j=>i / j
noncomputable def dR:R3:=rI3 (λ_ j=>0<j) λi j=>i%j
noncomputable def azH:R3:=rI3 aH5 λi j=>i^j.toNat
theorem aI3:a5P X (wg .Sub) tO:=aC1 aB8
theorem aI4:a5P X (wg .Mult) pQ:=aiL aB9
theorem aC2:a5P X (wg .FloorDiv) gQ:=aiL auB
theorem aI5:a5P X (wg .Mod) dR:=aiL aBA
theorem aI6:a5P X (wg .Pow) azH:=aiL aBB
noncomputable def adI:R3:=auZ λi j=>decide (i<j)
noncomputable def av0:R3:=auZ λi j=>decide (j<i)
noncomputable def aI7:R3:=auZ λi j=>decide (j<=i)
theorem aNC:lU X (jg .Lt) adI:=agT aH6
theorem aND:lU X (jg .Gt) av0:=agT aH8
theorem aNE:lU X (jg .GtE) aI7:=agT aH9
noncomputable def adJ:R3:=λx y G R=>match x,y with
 |.int i,.int j=>R (.bl (decide (i<=j))) G
 |.str i,.str j=>R (.bl (!decide (j.cps.toList<i.cps.toList))) G
 |_,_=>False
theorem al6:pJ X (jg .LtE) (λx y H Q=>∃i j,x=.str i/\y=.str j/\Q (.bl (!decide (j.cps.toList<i.cps.toList))) H):=by
 intro pins s σ H x y v u Q I rx ry h;obtain⟨i,j,rfl,rfl,q⟩:=h;obtain⟨t,rfl⟩:=rx;obtain⟨t',rfl⟩:=ry;exact PySem.P.le_str ⟨.bl _,H,I,rfl,q⟩
theorem aNF:lU X (jg .LtE) adJ:=by
 refine⟨_,aH7.or al6,λH x y vx vy G R Q rx ry gh h k=>?_⟩;cases rx with
 |int i =>
  cases ry with
  |int j=>exact .inl ⟨i,j,rfl,rfl,k _ H _ G (.refl H) (.bl _) gh h⟩
  |_=>exact False.elim h
 |str i =>
  cases ry with
  |str j=>exact .inr ⟨i,j,rfl,rfl,k _ H _ G (.refl H) (.bl _) gh h⟩
  |_=>exact False.elim h
 |_=>exact False.elim h
noncomputable def dD:R3:=λx y G R=>match x,y with
 |.int i,.int j=>R (.int (i+j)) G
 |.str i,.str j=>i.length+j.length<=dg/\R (.str (i++j)) G
 |.tup xs,.tup ys=>xs.length+ys.length<=dg/\R (.tup (xs++ys)) G
 |.ref l,.ref m=>match G l,G m with
  |some (.lst xs),aj (.lst ys)=>xs.length+ys.length<=dg/\∀p,G p=aq->R (.ref p) (aL G p (.lst (xs++ys)))
  |_,_=>False
 |_,_=>False
theorem ao7:pJ X (wg .Add) (λx y H Q=>∃a b ys,x=.ref a/\y=.ref b/\oH X.K H a []/\oH X.K H b ys/\Q (.ref b) H):=by
 intro pins s σ H x y v u Q I rx ry h;obtain⟨a,b,ys,rfl,rfl,ha,hb,q⟩:=h;cases rx;cases ry;obtain⟨its,r1,p1,_⟩:=I.tuple ha;obtain⟨its2,r2,p2,_⟩:=I.tuple hb;cases r1;obtain⟨⟨cls,dd,data,sl⟩,ho,hc,n,hd⟩:=id p1;obtain⟨⟨cls2,dd2,data2,sl2⟩,ho2,hc2,n2,hd2⟩:=id p2;simp only at hc hd hc2 hd2;subst hc hd hc2 hd2
 exact concat_meets ⟨_,ho,rfl⟩ ⟨_,ho2,rfl⟩ noFill_tuple_add seq_tuple_add PySem.F.slot_tuple_add PySem.F.entry_tuple_add (PySem.F.args_tuple_add_2 _ _)
   (tuple_addW0 a b #[] its2.toArray n n2 dd dd2 sl sl2 (by simp)) ⟨ho,ho2,⟨.ref b,H,I,rfl,q⟩⟩
set_option tactic.hygienic true in
theorem aI8:a5P X (wg .Add) dD:=by
 refine⟨_,aB7.or (agH.or (auN.or (ao7.or aBV))),λH x y vx vy G R Q rx ry gh h k=>?_⟩;cases rx with
 |int i =>
  cases ry with
  |int j=>exact .inl ⟨i,j,rfl,rfl,λ_=>k _ H _ G (.refl H) (.int _) gh h⟩
  |_=>exact False.elim h
 |str i =>
  cases ry with
  |str j=>exact .inr (.inl ⟨i,j,rfl,rfl,h.1,λ_=>k _ H _ G (.refl H) (.str _) gh h.2⟩)
  |_=>exact False.elim h
 |@tup a xs ds ha ra ea =>
  cases ry with
  |@tup b ys es hb rb eb =>
   by_cases hn:ds=[]
   .subst hn;cases ra;exact .inr (.inr (.inr (.inl ⟨a,b,ys,rfl,rfl,ha,hb,λ_=>k _ H _ G (.refl H) (.tup hb rb eb) gh h.2⟩)))
   .refine .inr (.inr (.inl ⟨a,b,xs,ys,rfl,rfl,ha,hb,λz=>hn (ra.zE.mp z),by rw[←ra.length,←rb.length];exact h.1,λz _=>?_,λ_ p hp _=>?_⟩))
    .subst z;cases rb;have h2:=h.2;rw[a1r]at h2;exact k _ H _ G (.refl H) (.tup ha ra ea) gh h2
    .have sn:Same H (upd H p (.tup (xs++ys))):=bB hp;exact k _ _ _ G (.same sn) (.tup (oH.of aF) ((ra.append rb).mono (.same sn)) (adD aF)) (gh.same sn) h.2
  |_=>exact False.elim h
 |ref l =>
  cases ry with
  |ref m =>
   have h':(match G l,G m with
    |some (.lst xs),aj (.lst ys)=>xs.length+ys.length<=dg/\∀p,G p=aq->R (.ref p) (aL G p (.lst (xs++ys)))
    |_,_=>False):=h
   split at h'
   .rename_i xs ys e1 e2;obtain⟨xv,f1,r1⟩:=gh l _ e1;obtain⟨yv,f2,r2⟩:=gh m _ e2;refine .inr (.inr (.inr (.inr ⟨l,m,xv,yv,rfl,rfl,f1,f2,by rw[←r1.length,←r2.length];exact h'.1,λp hp kf=>?_⟩)));have sn:Same H (upd H p (.lst (xv++yv))):=bB hp;exact k _ _ _ _ (.same sn) (.ref p) (gh.put (u:=.lst (xs++ys)) hp ⟨_,aF,(r1.append r2).mono (.same sn)⟩) (h'.2 p (gP gh hp kf))
   .exact h'.elim
  |_=>exact False.elim h
 |_=>exact False.elim h
noncomputable def aC3:R3:=λx y G R=>match x,y with
 |.non,.non=>R (.bl ak) G
 |_,.non=>R (.bl ao) G
 |.bl i,.bl j=>R (.bl (i==j)) G
 |.int _,.bl _=>R (.bl ao) G
 |.str _,.bl _=>R (.bl ao) G
 |.non,.bl _=>R (.bl ao) G
 |.tup _,.bl _=>R (.bl ao) G
 |.ref _,.bl _=>R (.bl ao) G
 |_,_=>False
noncomputable def ao8:R3:=λx y G R=>aC3 x y G λd G'=>match d with
 |.bl k=>R (.bl (!k)) G'
 |_=>False
theorem isV(x:V)(v:bh)(k:Bool)(r:RelV x v):(v==.bool k)=decide (x=.bl k):=by
 cases x with
 |non=>cases r;rfl
 |bl b =>
  cases r;cases b<;>cases k<;>rfl
 |int _=>obtain⟨t,rfl⟩:=r;rfl
 |str _=>obtain⟨t,rfl⟩:=r;rfl
 |byt _=>obtain⟨t,rfl⟩:=r;rfl
 |flt _=>obtain⟨t,rfl⟩:=r;rfl
 |ref _=>cases r;rfl
 |ty _=>cases r;rfl
theorem a9T(x:V)(v:bh)(k:Bool)(r:RelV x v):plainIs v (.bool k)=ak:=by
 cases x with
 |non=>cases r;rfl
 |bl b=>cases r;rfl
 |int _=>obtain⟨t,rfl⟩:=r;rfl
 |str _=>obtain⟨t,rfl⟩:=r;rfl
 |byt _=>obtain⟨t,rfl⟩:=r;rfl
 |flt _=>obtain⟨t,rfl⟩:=r;rfl
 |ref _=>cases r;rfl
 |ty _=>cases r;rfl
theorem av1:pJ X (jg .Is) (λx y H Q=>∃k,y=.bl k/\Q (.bl (decide (x=.bl k))) H):=by
 intro pins s σ H x y v u Q I rx ry h;obtain⟨k,rfl,q⟩:=h;cases ry;exact wpAny_is_plain (a9T x v k rx) ⟨.bl _,H,I,by rw[isV x v k rx];rfl,q⟩
theorem al7:pJ X (jg .IsNot) (λx y H Q=>∃k,y=.bl k/\Q (.bl (!decide (x=.bl k))) H):=by
 intro pins s σ H x y v u Q I rx ry h;obtain⟨k,rfl,q⟩:=h;cases ry;exact wpAny_isNot_plain (a9T x v k rx) ⟨.bl _,H,I,by rw[isV x v k rx];rfl,q⟩
theorem aNG:lU X (jg .Is) aC3:=by
 refine⟨_,aBD.or av1,λH x y vx vy G R Q rx ry gh h k=>?_⟩;cases ry with
 |non =>
  refine .inl ⟨rfl,?_⟩;cases rx with
  |non=>exact k _ H _ G (.refl H) (.bl _) gh h
  |_=>exact k _ H _ G (.refl H) (.bl _) gh h
 |bl j =>
  refine .inr ⟨j,rfl,?_⟩;cases rx with
  |bl i =>
   have e:decide (V.bl i=V.bl j)=(i==j):=by cases i<;>cases j<;>rfl
   rw[e];exact k _ H _ G (.refl H) (.bl _) gh h
  |ty n=>exact False.elim h
  |_=>exact k _ H _ G (.refl H) (.bl _) gh h
 |_=>cases rx<;>exact False.elim h
theorem aC4:lU X (jg .IsNot) ao8:=by
 refine⟨_,auC.or al7,λH x y vx vy G R Q rx ry gh h k=>?_⟩;cases ry with
 |non =>
  refine .inl ⟨rfl,?_⟩;cases rx with
  |non=>exact k _ H _ G (.refl H) (.bl _) gh h
  |_=>exact k _ H _ G (.refl H) (.bl _) gh h
 |bl j =>
  refine .inr ⟨j,rfl,?_⟩;cases rx with
  |bl i =>
   have e:decide (V.bl i=V.bl j)=(i==j):=by cases i<;>cases j<;>rfl
   rw[e];exact k _ H _ G (.refl H) (.bl _) gh h
  |ty n=>exact False.elim h
  |_=>exact k _ H _ G (.refl H) (.bl _) gh h
 |_=>cases rx<;>exact False.elim h
noncomputable def aM(G:Gp)(a:bx):Option (List D):=match G a with
 |some (.lst ds)=>aj ds
 |some (.rol ds)=>aj ds
 |_=>aq
set_option tactic.hygienic true in
theorem bM{K:Fg}(g:HR K H G){a:bx}(e:aM G a=aj ds):∃xs,pO K H a xs/\bQ K H ds xs:=by
 unfold aM at e;split at e
 .rename_i ds' q;cases e;obtain⟨xs,h1,h2⟩:=g a _ q;exact⟨xs,pO.of h1,h2⟩
 .rename_i ds' q;cases e;exact g a _ q
 .cases e
noncomputable def bR:R3:=λx y G R=>match x,y with
 |.tup xs,.int i=>match zF xs i with
  |some d=>R d G
  |none=>False
 |.str z,.int i=>z.length<=dg/\match zF z.cps.toList i with
  |some c=>R (.str ⟨#[c]⟩) G
  |none=>False
 |.ref p,.int i=>match aM G p with
  |some xs=>(match zF xs i with
   |some d=>R d G
   |none=>False)
  |none=>False
 |_,_=>False
theorem ao9{K:Fg}(r:bQ K H ds xs){i:Int}(e:zF ds i=aj d):∃v,zF xs i=aj v/\RD K H d v:=by
 unfold zF at e ⊢;rw[←r.length];cases q:ixN ds.length i with
 |none=>rw[q]at e;cases e
 |some j =>
  rw[q]at e;exact r.get e
set_option tactic.hygienic true in
theorem aNH(ha:cF X a ta)(hb:cF X b tb)(hs:ab4 b):cF X (.Subscript a b pos) (aG bR ta tb):=by
 refine PE.imp (aHG aBR ha hb hs) λ_ _ _ h=>agS ?_ h;intro H x y vx vy G R Q rx ry gh h k;cases rx with
 |@tup p xs ds hp r =>
  cases ry with
  |int i =>
   have h':(match zF ds i with
    |some d=>R d G
    |none=>False):=h
   split at h'
   .rename_i d e;obtain⟨v,e1,e2⟩:=ao9 r e;exact .inr (.inl ⟨p,xs,i,v,rfl,rfl,hp,e1,k v H d G (.refl H) e2 gh h'⟩)
   .exact h'.elim
  |_=>exact False.elim h
 |str z =>
  cases ry with
  |int i =>
   have h':z.length<=dg/\(match zF z.cps.toList i with
    |some c=>R (.str ⟨#[c]⟩) G
    |none=>False):=h
   obtain⟨hz,h'⟩:=h';split at h'
   .rename_i d e;exact .inr (.inr ⟨z,i,d,rfl,rfl,hz,e,k _ H _ G (.refl H) (.str _) gh h'⟩)
   .exact h'.elim
  |_=>exact False.elim h
 |ref p =>
  cases ry with
  |int i =>
   have h':(match aM G p with
    |some xs=>(match zF xs i with
     |some d=>R d G
     |none=>False)
    |none=>False):=h
   split at h'
   .rename_i ds e;obtain⟨xs,hp,r⟩:=bM gh e;split at h'
    .rename_i d e';obtain⟨v,e1,e2⟩:=ao9 r e';exact .inl ⟨p,xs,i,v,rfl,rfl,hp,e1,k v H d G (.refl H) e2 gh h'⟩
    .exact h'.elim
   .exact h'.elim
  |_=>exact False.elim h
 |_=>exact False.elim h
abbrev TO3:=aN->Gp->(Option Int->Gp->Prop)->Prop
noncomputable def upO(K:Fg)(t:TO3):TO:=λσ H Q=>∃ρ G R,SR K H ρ σ/\HR K H G/\t ρ G R/\∀i H' G',Ts H H'->HR K H' G'->R i G'->Q i H'
abbrev PO3(X:Cx)(e:Option jf)(t:TO3):Prop:=PO X e (upO X.K t)
theorem PO.imp{t:TO}(h:PO X e t)(k:∀σ H Q,t' σ H Q->t σ H Q):PO X e t':=λpins s σ H Q I q=>h pins s σ H Q I (k _ _ _ q)
noncomputable def pR:TO3:=λ_ G R=>R aq G
noncomputable def a1I(t:cB):TO3:=λρ G R=>t ρ G λx G1=>match x with
 |.int i=>R (aj i) G1
 |_=>False
theorem aC5:PO3 X aq pR:=PO.imp auL λσ H Q h=>by
 obtain⟨ρ,G,R,s,g,t,k⟩:=h;exact k aq H G (.refl H) g t
theorem aC6(h:cF X e te):PO3 X (aj e) (a1I te):=PO.imp (auM h) λσ H Q h=>by
 obtain⟨ρ,G,R,s,g,t,k⟩:=h;refine⟨ρ,G,_,s,g,t,λv H1 x G1 t1 r g1 q=>?_⟩;cases r with
 |int i=>exact⟨i,rfl,k _ H1 G1 t1 g1 q⟩
 |_=>exact False.elim q
noncomputable def cutD{α:Type}(xs:List α)(lo hi:Option Int):List α:=(xs.drop (HT.jP xs.length 0 lo)).take (HT.jP xs.length xs.length hi - HT.jP xs.length 0 lo)
end
end
variable{F:Ends}
section
section
variable{X:Cx}{st:kj}{rest:List kj}{t u:bI}{te:cB}{pos:Pos}
noncomputable def bO:bI:=λF ρ G=>F.nx ρ G
noncomputable def aR(t u:bI):bI:=λF ρ G=>t {F with nx:=u F} ρ G
theorem aIA:xE X [] bO:=PSs.imp au5 λF σ H h=>by
 obtain⟨ρ,G,E,s,g,q,d⟩:=h;exact d.nx ρ G σ H s g q
theorem aC7{K:Fg}(h:upS K (aR t u) F σ H):aAZ (upS K t) (upS K u) F σ H:=by
 obtain⟨ρ,G,E,s,g,q,d⟩:=h;exact⟨ρ,G,_,s,g,q,⟨λρ' G' σ' H' s1 g1 h=>⟨ρ',G',E,s1,g1,h,d⟩,d.rt,d.bk,d.ct⟩⟩
theorem aC8(h1:PS3 X st t)(h2:xE X rest u):xE X (st::rest) (aR t u):=PSs.imp (an9 h1 h2) λ_ _ _ h=>aC7 h
theorem azJ(h1:PS3 X st t):xE X [st] t:=au6 h1
theorem aC9:PS3 X (.Pass pos) bO:=PS.imp au7 λF σ H h=>by
 obtain⟨ρ,G,E,s,g,q,d⟩:=h;exact d.nx ρ G σ H s g q
noncomputable def cZ(te:cB):bI:=λF ρ G=>te ρ G λ_ G1=>F.nx ρ G1
theorem aCA(he:cF X e te)(hs:a0z e aq pos.line X.env=pure ao:=by rfl):PS3 X (.Expr e pos) (cZ te):=PS.imp (au8 he hs) λF σ H h=>by
 obtain⟨ρ,G,E,s,g,q,d⟩:=h;exact⟨ρ,G,_,s,g,q,λv H' x G' t1 r g1 h=>d.nx ρ G' σ H' (s.mono t1) g1 h⟩
noncomputable def bL(te:cB):bI:=λF ρ G=>te ρ G F.rt
theorem azK(he:cF X e te):PS3 X (.Return (aj e) pos) (bL te):=PS.imp (aB0 he) λF σ H h=>by
 obtain⟨ρ,G,E,s,g,q,d⟩:=h;exact⟨ρ,G,_,s,g,q,λv H' x G' t1 r g1 h=>d.rt x G' v H' r g1 h⟩
noncomputable def cG(c:xP)(t u:bI):bI:=λF ρ G=>c ρ G λb G1=>if b=ak then t F ρ G1 else u F ρ G1
theorem aNI{b:List kj}(hc:PT3 X c tc)(ha:xE X a t)(hb:xE X b u):PS3 X (.If c a b pos) (cG tc t u):=PS.imp (aGV hc ha hb) λF σ H h=>by
 obtain⟨ρ,G,E,s,g,q,d⟩:=h;refine⟨ρ,G,_,s,g,q,λb H' G' t1 g1 h=>?_⟩;cases b with
 |true=>exact⟨ρ,G',E,s.mono t1,g1,h,d⟩
 |false=>exact⟨ρ,G',E,s.mono t1,g1,h,d⟩
noncomputable def bZ(i:Nat)(te:cB):bI:=λF ρ G=>te ρ G λx G1=>F.nx (xD ρ i x) G1
theorem azL{i:Nat}(hN:X.N.Nodup)(hi:X.N[i]?=aj x)(hx:Loc X.env.scope x)(he:cF X e te)(hs:a0z e (aj (.Name x pos')) pos.line X.env=pure ao:=by rfl)(hf:X.fn x=ak∨X.env.scope.names.lookup x=aj .local:=by first|exact .inl rfl|exact .inr rfl|assumption) :
  PS3 X (.Assign [.Name x pos'] e pos) (bZ i te):=PS.imp (aB4 hN hi hx he hs hf) λF σ H h=>by
 obtain⟨ρ,G,E,s,g,q,d⟩:=h;exact⟨ρ,G,_,s,g,q,λv H' x G' t1 r g1 h=>d.nx _ G' _ H' ((s.mono t1).set r i) g1 h⟩
noncomputable def abD(to ti te:cB):bI:=λF ρ G=>te ρ G λv G1=>to ρ G1 λo G2=>ti ρ G2 λi G3=>match o,i with
 |.ref p,.int k=>(match G3 p with
  |some (.lst xs)=>(match ixN xs.length k with
   |some j=>F.nx ρ (aL G3 p (.lst (xs.set j v)))
   |none=>False)
  |_=>False)
 |_,_=>False
set_option tactic.hygienic true in
theorem aCB(ho:cF X o to)(hi:cF X i ti)(he:cF X e te)
  (ha:∀v,assign (.Subscript o i pos') X.env v=(do
   let ov ←a0g [v] (eval o X.env)
   let iv ←a0g [v,ov] (eval i X.env)
   standAt pos'
   a0g [v,ov,iv] (setItem ov iv v)
   release [v,ov,iv] []):=by intro _;rfl)
  (hs:swapsWithSole [.Subscript o i pos'] e pos.line X.env=pure ao:=by rfl)(hw:swappedStores [.Subscript o i pos'] e X.env=pure aq:=by rfl)
  (h1:(a0e [.Subscript o i pos'] X.env).map (·.2)=[assign (.Subscript o i pos') X.env]:=by rfl):PS3 X (.Assign [.Subscript o i pos'] e pos) (abD to ti te) :=
 PS.imp (aB3 he (aB2 ho hi set_list ha) hs hw h1) λF σ H h=>by
 obtain⟨ρ,G,E,s,g,q,d⟩:=h;refine⟨ρ,G,_,s,g,q,λv H1 x G1 t1 rv g1 q1=>?_⟩;refine⟨ρ,G1,_,s.mono t1,g1,q1,λov H2 o' G2 t2 ro g2 q2=>?_⟩;refine⟨ρ,G2,_,s.mono (t1.trans t2),g2,q2,λiv H3 i' G3 t3 ri g3 q3=>?_⟩;cases ro with
 |ref p =>
  cases ri with
  |int k =>
   have q3':(match G3 p with
    |some (.lst xs)=>(match ixN xs.length k with
     |some j=>E.nx ρ (aL G3 p (.lst (xs.set j x)))
     |none=>False)
    |_=>False):=q3
   split at q3'
   .rename_i xs e1;split at q3'
    .rename_i j e2;obtain⟨ys,f1,r1⟩:=g3 p _ e1;refine⟨p,ys,k,j,rfl,rfl,f1,by rw[←r1.length];exact e2,?_⟩;have tt:Ts H3 (upd H3 p (.lst (ys.set j v))):=.turn f1 (λ_ z=>nomatch z) (λ_ _ z=>nomatch z);exact d.nx ρ _ σ _ (s.mono (((t1.trans t2).trans t3).trans tt)) (g3.turn (u:=.lst (xs.set j x)) tt ⟨_,aF,((r1.set (rv.mono (t2.trans t3)) j).mono tt)⟩) q3'
    .exact q3'.elim
   .exact q3'.elim
  |_=>exact False.elim q3
 |_=>cases ri<;>exact False.elim q3
end
section
theorem adK{K:Fg}{J:It}{g:TG}{tb:TS}{n:Nat}(Pv:Nat->St->Hp->Prop)(h0:Pv 0 σ H)
  (stop:∀σ H,Pv n σ H->J.stop n H)(go:∀i σ H,i<n->Pv i σ H->J.go i H)
  (hs:∀i x σ H H',i<n->Pv i σ H->J.yld i H x H'->g x σ H' λσ2 H2=>tb {F with nx:=Pv (i+1),ct:=Pv (i+1),bk:=F.nx} σ2 H2)(hd:∀σ H,Pv n σ H->F.nx σ H) :
  ∃W:Nat->Nat->St->Hp->Prop,(∃m,W 0 m σ H)/\∀i m σ H,W i m σ H ->
   (J.stop i H/\F.nx σ H)∨(J.go i H/\∃N:St->Hp->Prop,(∀σ' H',N σ' H'->∃m',m'<m/\W (i+1) m' σ' H')/\∀x H',J.yld i H x H'->g x σ H' λσ2 H2=>tb {F with nx:=N,ct:=N,bk:=F.nx} σ2 H2):=by
 refine⟨λi m σ H=>m=n - i/\i<=n/\Pv i σ H,⟨n,by simp,vm _,h0⟩,?_⟩;rintro i m σ H ⟨rfl,hi,p⟩;by_cases hlt:i<n
 .exact .inr ⟨go i σ H hlt p,Pv (i+1),λσ' H' p'=>⟨n - (i+1),by omega,rfl,hlt,p'⟩,λx H' y=>hs i x σ H H' hlt p y⟩
 .have e:i=n:=by omega
  subst e;exact .inl ⟨stop σ H p,hd σ H p⟩
end
abbrev aX:=Addr->Gp->Prop
abbrev gW:=List D->Gp->fL->aX->Prop
def UpX(K:Fg)(EX:aX)(E:XK):Prop:=∀C H' G',HR K H' G'->EX C G'->E (.ref C) aq H'
noncomputable def cH(K:Fg)(sp:gW):Sp:=λvs H Q E=>∃ds G R EX,bQ K H ds vs/\HR K H G/\sp ds G R EX/\(∀v H' d G',RD K H' d v->HR K H' G'->R d G'->Q v H')/\UpX K EX E
section
variable{EX:aX}
noncomputable def aIB(n m:Nat)(tb:aX->bI):gW:=λds G R EX=>ds.length=m/\tb EX ⟨λ_ G'=>R .non G',R,λ_ _=>False,λ_ _=>False⟩ (rN n ds) G
end
end
variable{env:Env}
section
noncomputable def gZ(P:jt)(w:iy):CXT:=λouter H s E e s'=>∃(x C:bx)(H':Hp)(B:jj),e=.ref x/\Fly B outer x (.ref C) s'.heap/\u9 P w H' B /\
 (∀b o,s.heap.get? b=aj o->H b=aq->b∉frs outer->B.get? b=aj o)/\(∀b o,s.heap.get? b=aj o->b∉frs outer->∃o',B.get? b=aj o') /\
 Un (frs outer) [] H H' s.heap s'.heap/\s'.os=s.os/\AllBare s'.gens/\E (.ref C) aq H'
theorem aiM(h:b∈frs l):∃env∈l,env.frame=aj b:=a1u.mp h
theorem abE(h:env∈l)(e:env.frame=aj b):b∈frs l:=a1u.mpr ⟨env,h,e⟩
section
variable{qt:Bool}{P:jt}{w:iy}{K:Fg}{mg:Str->Option bh}{base:jj}{N:List Str}{qual:Str}{scope:uh}{f:bx}{cd:bh}{A:iw}{outer:List Env}{s₀:cj}{H₀:Hp}{E:XK}
noncomputable abbrev cx1(qt:Bool)(P:jt)(w:iy)(K:Fg)(mg:Str->Option bh)(base:jj)(N:List Str)(qual:Str)(scope:uh)(f:bx)(cd:bh)(A:iw)(outer:List Env)(s₀:cj)(H₀:Hp)(E:XK):Cx:=lR qt (gZ P w) P w K mg base N qual scope f cd A outer s₀ H₀ E
theorem iY{X:Cx}(I:Inv X pins σ H s)(hst:X.stack=X.env::X.outer)(hf:X.env.frame=aj X.env.locals)(e:X.s₀.heap.get? b=aj o)(n:b∉frs X.outer):b∉frs X.stack:=λhb=>by
 obtain⟨env,he,hfr⟩:=aiM hb;rw[hst]at he;rcases jm.mp he with rfl|he
 .have z:X.env.locals=b:=jk.inj (hf.symm.trans hfr);have h1:=I.ok.above;have h2:=gk e;rw[z]at h1;exact absurd (iz h2 h1) (ud _)
 .exact n (abE he hfr)
theorem av3{s:cj}(I:Inv (cx1 qt P w K mg base N qual scope f cd A outer s₀ H₀ E) pins σ H s)(hm:a2q s.heap h' e (.ref C) us)(q:E (.ref C) aq H) :
  (cx1 qt P w K mg base N qual scope f cd A outer s₀ H₀ E).xe (.ref e) {s with heap:=h' }:=by
 have hst:(cx1 qt P w K mg base N qual scope f cd A outer s₀ H₀ E).stack=(cx1 qt P w K mg base N qual scope f cd A outer s₀ H₀ E).env::outer:=rfl;have hin:∀env∈(cx1 qt P w K mg base N qual scope f cd A outer s₀ H₀ E).stack,∀b,env.frame=aj b->b∈frs (cx1 qt P w K mg base N qual scope f cd A outer s₀ H₀ E).stack:=λenv he b hb=>abE he hb;have hB:∀b o,(a2j s.heap (frs (cx1 qt P w K mg base N qual scope f cd A outer s₀ H₀ E).stack)).get? b=aj o->s.heap.get? b=aj o:=λb o e=>PySem.W.of_hideAll _ e;have toB:∀b o,s.heap.get? b=aj o->b∉frs (cx1 qt P w K mg base N qual scope f cd A outer s₀ H₀ E).stack->(a2j s.heap (frs (cx1 qt P w K mg base N qual scope f cd A outer s₀ H₀ E).stack)).get? b=aj o:=λb o e n=>PySem.W.hideAll_get _ e n;have fr:=PySem.W.funFrames_hide I.stack hin;refine agC (B:=a2j s.heap (frs (cx1 qt P w K mg base N qual scope f cd A outer s₀ H₀ E).stack)) (h0:=s.heap) I.ok.frames rfl hB fr hm λh2 k1 k4=>?_;have up:∀b o,s.heap.get? b=aj o->(∀vs,o.data≠.fields vs)->∃sl,h2.get? b=aj {o with slots:=sl}:=λb o e nd=>k4 b o (hm.keeps b o e) nd
 have hfd:∀b∈frs outer,∀o,s.heap.get? b=aj o->∀vs,o.data≠.fields vs:=λb hb o e=>by
  obtain⟨_,o',ho',hd⟩:=I.nF.mem hb;rw[e]at ho';cases ho';exact hd
 refine⟨e,C,H,_,rfl,k1,?_,λb o eb nb hb=>?_,λb o eb hb=>?_,⟨λb o eb nb hb _=>?_,λb o eb nb hb _=>?_,λb o eb nb hx=>I.base.free b o eb nb hx,λb o eb hx=>?_,I.base.tups,I.base.fK,I.base.nD⟩,I.os,I.bare,q⟩
 .intro b o hb;refine(I.hok b o hb).stay (λc u hc eu=>toB c u eu λhz=>?_) (λ_ z=>z) λ_ _ z=>z;have n:=I.aaZ c hz;rcases hc with rfl|hc
  .rw[hb]at n;cases n
  .rw[hc]at n;cases n
 .exact toB b o (I.base.keep b o eb nb hb (by simp[lR])) (iY I hst rfl eb hb)
 .obtain⟨o',e'⟩:=I.base.there b o eb (by simp[lR]);exact⟨o',toB b o' e' (iY I hst rfl eb hb)⟩
 .exact k1.stays b o (toB b o (I.base.keep b o eb nb hb (by simp[lR])) (iY I hst rfl eb hb))
 .obtain⟨sl,e1⟩:=I.base.slot b o eb nb hb (by simp[lR]);obtain⟨sl2,e2⟩:=up b _ e1 (hfd b hb _ e1);exact⟨sl2,e2⟩
 .obtain⟨o',e'⟩:=I.base.there b o eb (by simp[lR]);by_cases hb:b∈frs outer
  .obtain⟨sl,e1⟩:=up b o' e' (hfd b hb o' e');exact⟨_,e1⟩
  .exact⟨o',k1.stays b o' (toB b o' e' (iY I hst rfl eb hb))⟩
theorem av4(hE:∀C H',E' C aq H'->E C aq H')(I:Inv (cx1 qt P w K mg base N qual scope f cd A outer s₀ H₀ E) pins σ H s)
  (c:gZ P w (cx1 qt P w K mg base N qual scope f cd A outer s₀ H₀ E).stack H s E' e s'):(cx1 qt P w K mg base N qual scope f cd A outer s₀ H₀ E).xe e s':=by
 obtain⟨x,C,H',B,rfl,fl,hok,cov,agU,un,os,bare,q⟩:=c;have hst:(cx1 qt P w K mg base N qual scope f cd A outer s₀ H₀ E).stack=(cx1 qt P w K mg base N qual scope f cd A outer s₀ H₀ E).env::outer:=rfl;refine an3 (B:=B) I.ok.frames rfl fl λh2 k1 k4=>?_
 have hfs:∀b∈frs outer,b∈frs (cx1 qt P w K mg base N qual scope f cd A outer s₀ H₀ E).stack:=λb hb=>by
  obtain⟨env,he,hf⟩:=aiM hb;exact abE (jw _ he) hf
 have hfd:∀b∈frs outer,∀o,s'.heap.get? b=aj o->∀vs,o.data≠.fields vs:=λb hb o e=>by
  obtain⟨_,o',ho',hd⟩:=fl.aAJ.mem (hfs b hb);rw[e]at ho';cases ho';exact hd
 refine⟨x,C,H',B,rfl,k1,hok,λb o eb nb hb=>?_,λb o eb hb=>?_,⟨λb o eb nb hb _=>?_,λb o eb nb hb _=>?_,λb o eb nb hx=>?_,λb o eb hx=>?_,λb xs z=>un.tups b xs (I.base.tups b xs z),λb o u z=>un.fK b o u (I.base.fK b o u z),λb ps z=>?_⟩,os.trans I.os,bare,hE _ _ q⟩
 .exact cov b o (I.base.keep b o eb nb hb (by simp[lR])) (I.base.free b o eb nb (by simp[lR])) (iY I hst rfl eb hb)
 .obtain⟨o',e'⟩:=I.base.there b o eb (by simp[lR]);exact agU b o' e' (iY I hst rfl eb hb)
 .exact k1.stays b o (cov b o (I.base.keep b o eb nb hb (by simp[lR])) (I.base.free b o eb nb (by simp[lR])) (iY I hst rfl eb hb))
 .obtain⟨sl,e1⟩:=I.base.slot b o eb nb hb (by simp[lR]);obtain⟨sl2,e2⟩:=un.slot b _ e1 (I.base.free b o eb nb (by simp[lR])) (hfs b hb) (by simp);obtain⟨sl3,e3⟩:=k4 b _ e2 (hfd b hb _ e2);exact⟨sl3,e3⟩
 .obtain⟨o',e'⟩:=I.base.there b o eb (by simp[lR]);exact un.free b o' e' (I.base.free b o eb nb (by simp[lR])) (by simp)
 .obtain⟨o',e'⟩:=I.base.there b o eb (by simp[lR]);by_cases hb:b∈frs outer
  .obtain⟨o2,e2⟩:=un.there b o' e' (by simp);obtain⟨sl,e3⟩:=k4 b o2 e2 (hfd b hb o2 e2);exact⟨_,e3⟩
  .obtain⟨o2,e2⟩:=agU b o' e' (iY I hst rfl eb hb);exact⟨o2,k1.stays b o2 e2⟩
 .obtain⟨m1,e1⟩:=I.base.nD b ps z;obtain⟨m2,e2⟩:=un.nD b _ e1;exact⟨m1++m2,by rw[e2,Array.append_assoc]⟩
end
noncomputable def a2P(K:Fg)(EX:aX):XK:=λC _ H'=>∃c G',C=.ref c/\HR K H' G'/\EX c G'
structure Cat(X:Cx)(EX:aN->aX):Prop where
 aiN:∀pins σ H s ρ e s',Inv X pins σ H s->SR X.K H ρ σ->gZ X.prog X.w X.stack H s (a2P X.K (EX ρ)) e s'->X.xe e s'
structure Thr(X:Cx)(EX:aN->aX):Prop where
 made:∀pins σ H s ρ C e us h',Inv X pins σ H s->SR X.K H ρ σ->a2q s.heap h' e (.ref C) us->a2P X.K (EX ρ) (.ref C) aq H->X.xe (.ref e) {s with heap:=h' }
section
variable{qt:Bool}{w:iy}{K:Fg}{mg:Str->Option bh}{base:jj}{N:List Str}{qual:Str}{scope:uh}{A:iw}{outer:List Env}{s₀:cj}{H₀:Hp}
theorem adL(h:UpX K EX E)(q:a2P K EX C aq H'):E C aq H':=by
 obtain⟨c,G',rfl,g,q⟩:=q;exact h c H' G' g q
theorem aID(h:UpX K EX E):Cat (cx1 qt P w K mg base N qual scope f cd A outer s₀ H₀ E) (λ_=>EX) :=
 ⟨λpins σ H s ρ e s' I _ c=>av4 (E':=a2P K EX) (λC H' q=>adL h q) I c⟩
theorem aIE(h:UpX K EX E):Thr (cx1 qt P w K mg base N qual scope f cd A outer s₀ H₀ E) (λ_=>EX) :=
 ⟨λpins σ H s ρ C e us h' I _ hm q=>av3 I hm (adL h q)⟩
theorem own1:PassesOwn (fj P w) (cx1 qt P w K mg base N qual scope f cd A outer s₀ H₀ E).A (cx1 qt P w K mg base N qual scope f cd A outer s₀ H₀ E).env (cx1 qt P w K mg base N qual scope f cd A outer s₀ H₀ E).xe:=PassesOwn.leaving
end
section
variable{X:Cx}{k:Nat}{sp:gW}{EX:aN->aX}{x:Str}{p pos:Pos}{t:nH}
noncomputable def aU(sp:gW)(EX:aN->aX)(t:nH):cB:=λρ G R=>t ρ G λds G1=>sp ds G1 R (EX ρ)
set_option tactic.hygienic true in
theorem aiO{Q Q':VK}(F:bY qt X.prog X.w X.K X.mg X.base (gZ X.prog X.w) k f fd ps (cH X.K sp))(hr:d9 qt k X.A)(hb:Binds X.K fd ps [])
  (hx:∀e s',gZ X.prog X.w X.stack H s E e s'->X.xe e s')
  (I:Inv X pins σ H s)(r:Vals vs us)(h:cH X.K sp vs H Q E)(hQ:∀v H',Ts H H'->Q v H'->Q' v H'):cu (fj X.prog X.w) X.A (call (.ref f) us) (EP X pins σ Q') X.xe s:=by
 have hl:(us++[]).length=ps.length:=by rw[a1r,←r.length];exact F.len _ _ _ _ h
 refine wpAny_call (codeAny_mono (F.run X.A X.stack s H ⟨us,[]⟩ (us++[]) vs Q E hr I.env0 (hb s us I.kIn hl) (by rw[a1r];exact r) h) λr s' hq=>?_);cases r with
 |error e=>exact hx e s' hq
 |ok fl =>
  cases fl with
  |ret u =>
   obtain⟨v,H',os,bare,un,hok,r,q⟩:=hq;exact⟨v,H',I.call' (ch:=[]) os un hok bare (λb z=>absurd z (by simp)),r,hQ v H' ⟨un.tups,un.fK⟩ q⟩
  |next=>exact False.elim hq
  |brk=>exact False.elim hq
  |cont=>exact False.elim hq
theorem av5(F:bY qt X.prog X.w X.K X.mg X.base (gZ X.prog X.w) k f fd ps (cH X.K sp))(hr:d9 qt k X.A)(hg:Gl X x)(hm:X.mg x=aj (.ref f))(hk:tu X.K (.ref f)=ak)(hb:Binds X.K fd ps [])(hx:Cat X EX)
  (ha:PA3 X (e::es) t)(hdb:(x==("__debug__":Str))=ao:=by decide)(he:je (e::es) X.env=(ao,eval e X.env)::je es X.env:=by rfl)(hpl:(yh pos (je es X.env)).any (·.1)=ao:=by rfl) :
  cF X (.Call (.Name x p) (e::es) [] pos) (aU sp EX t):=by
 intro pins s σ H Q I h _tk;obtain⟨ρ,G,R,sr,g,q,kk⟩:=h;refine yp (mH I hg hm ?_ hdb);refine PySem.W.callWith_K (h₀:=X.base) I.ok.mod.kin hk (cL (ha pos pins s σ H (λvs H1=>Ts H H1/\∃ds G1,bQ X.K H1 ds vs/\HR X.K H1 G1/\sp ds G1 R (EX ρ)) I ⟨ρ,G,_,sr,g,q,λvs H1 ds G1 t1 r1 g1 q1=>⟨t1,ds,G1,r1,g1,q1⟩⟩) λus s1 ⟨vs,H1,I1,r,t1,ds,G1,r1,g1,q1⟩=>⟨I1.kIn,?_⟩) he hpl;refine aiO (E:=a2P X.K (EX ρ)) F hr hb (λe s' c=>hx.aiN pins σ H1 s1 ρ e s' I1 (sr.mono t1) c) I1 r (Q:=λv H'=>∃d G',RD X.K H' d v/\HR X.K H' G'/\R d G') ⟨ds,G1,R,EX ρ,r1,g1,q1,λv H' d G' r2 g2 q2=>⟨d,G',r2,g2,q2⟩,λC H' G' g' q'=>⟨C,G',rfl,g',q'⟩⟩ (by rintro v H' t2 ⟨d,G',r2,g2,q2⟩;exact kk v H' d G' (t1.trans t2) r2 g2 q2)
theorem aCC{P:jt}{w:iy}{K:Fg}{f:bx}{fd:ju}{N ps:List Str}{k:Nat}{tb:aX->bI}(F:Fun K x qual st f fd)(S:bA N ps (aW st))
  (hbody:∀(cdv:bh)(A:iw)(outer:List Env)(s:cj)(H:Hp)(E:XK)(EX:aX),d9 qt k (A.deeper (envOfC qual (aW st) s.heap.objs.size f cdv))->UpX K EX E ->
   xE (cx1 qt P w K mg base N qual (aW st) f cdv A outer s H E) (bU st) (tb EX)):bY qt P w K mg base (gZ P w) (k+1) f fd ps (cH K (aIB N.length ps.length tb)):=by
 obtain⟨oc,od,dV,kV,doc,pm,an,cdv,ct,osl,rfl,lk,hcd⟩:=F.ex;have hpl:ps.length<=N.length:=by have:=congrArg List.length S.pre;rw[wj]at this;omega
 refine anM lk hcd S (λvs H Q E h=>?_) λA outer s H vs Q E hr hsp=>?_
 .obtain⟨ds,G,R,EX,r,g,⟨hl,q⟩,_⟩:=h;rw[←r.length,hl]
 .obtain⟨ds,G,R,EX,r,g,⟨hl,q⟩,kk,hE⟩:=hsp;refine⟨_,hbody cdv A outer s H E EX hr hE,rN N.length ds,G,_,?_,g,q,⟨λρ G' σ' H' s1 g1 q1=>kk .non H' .non G' .non g1 q1,λd G' v H' r1 g1 q1=>kk v H' d G' r1 g1 q1,λ_ _ _ _ _ _ z=>z.elim,λ_ _ _ _ _ _ z=>z.elim⟩⟩;unfold rN start;rw[r.length];exact SR.entry r
end
section
variable{X:Cx}{C:bx}{bmB:List bh}{B Bn newId nid initId inN:String}{EX:aN->aX}{x:Str}{pos:Pos}{t:nH}
set_option tactic.hygienic true in
theorem a4H{K:Fg}(XK:K.In h)(q:yt K C bmB newId=ak):∃bm N nm q bs hdct sn sub ab col dd k0 k1 k2 k3 k5 mN,h.get? C=aj (excClassObj nm q C N bs bm hdct sn sub ab col dd k0 k1 k2 k3 k5 newId)/\h.Ns N mN/\mN "__init__"=aq/\OwnTail h bmB bm:=by
 unfold yt at q;split at q
 .rename_i dd cd sl ho;split at q
  .rename_i C' bm k0 k1 k2 k3 n k5 hm hs;simp only[bw,beq_iff_eq,gq]at q;obtain⟨⟨⟨⟨⟨rfl,rfl⟩,hdel⟩,ht⟩,hok⟩,hni⟩:=q;obtain⟨nm,bs,mro,ns,qn,hd,sn,sub,ab,col,del⟩:=cd;dsimp only at hm hdel hok hni;subst hm hdel
   have hsl:sl=#[k0,k1,k2,k3,aj (.builtin n),k5]:=by
    obtain⟨l⟩:=sl;simp only at hs;rw[hs]
   subst hsl;exact⟨bm,ns,nm,qn,bs,hd,sn,sub,ab,col,dd,k0,k1,k2,k3,k5,_,XK _ _ ho,.of_isNs (PySem.W.isNs_of_in XK hok),PySem.W.nsMap_none_of_in XK hok hni,PySem.W.tail_of_in XK ht⟩
  .cases q
 .cases q
noncomputable def rO(EX:aN->aX)(C:bx)(t:nH):bI:=λ_ ρ G=>t ρ G λds G1=>ds.length<=dg/\EX ρ C G1
theorem av6(hc:X.calm=ak)(Fn:a0r Bn newId inN bmN)(hBn:bmB.contains (.type Bn)=ak)(FB:a0r B nid initId bmB)(hg:Gl X x)(hm:X.mg x=aj (.ref C))(hq:yt X.K C bmB newId=ak)(hT:Thr X EX)
  (ha:PA3 X (e::es) t)(hd:(x==("__debug__":Str))=ao:=by decide)
  (he:je (e::es) X.env=(ao,eval e X.env)::je es X.env:=by rfl)(hplain:(yh cpos (je es X.env)).any (·.1)=ao:=by rfl) :
  PS3 X (.Raise (aj (.Call (.Name x np) (e::es) [] cpos)) aq pos) (rO EX C t):=by
 intro pins s σ H F I h _tk;obtain⟨ρ,G,E3,sr,g,q,dd⟩:=h;obtain⟨tl,N,nm,q',bs,hdct,sn,sub,ab,col,dd',k0,k1,k2,k3,k5,mN,hC,hN,hni,T⟩:=a4H I.mod.kin hq
 refine wpAny_Raise_call_subU (C:=C) (nm:=nm) (q:=q') (N:=N) (bs:=bs) (bm:=tl) (hdct:=hdct) (sn:=sn) (sub:=sub) (ab:=ab) (col:=col) (dd:=dd') (k0:=k0) (k1:=k1) (k2:=k2) (k3:=k3) (k5:=k5)
  Fn hBn FB (mN:=mN) (T.hasType FB.hasBase) (I.ok.hd hc) (by rw[he];show(ao||(yh cpos (je es X.env)).any (·.1))=ao;rw[hplain];rfl) hni (mH I hg hm ⟨rfl,?_⟩ hd)
 have hA:=ha cpos pins s σ H (λvs H1=>Ts H H1/\∃ds G1,bQ X.K H1 ds vs/\HR X.K H1 G1/\ds.length<=dg/\EX ρ C G1) I ⟨ρ,G,_,sr,g,q,λvs H1 ds G1 t1 r1 g1 q1=>⟨t1,ds,G1,r1,g1,q1.1,q1.2⟩⟩;rw[he]at hA ⊢;refine Calls.evalArgs_plain (cL hA ?_);rintro us s2 ⟨vs,H2,I2,r2,t1,ds,G1,r1,g1,hl,q1⟩;exact⟨rfl,by rw[←r2.length,←r1.length];exact hl,I2.bk _ _ hC,hN.keeps I2.bk,T.keeps I2.bk,λh' e' hm'=>hT.made pins σ H2 s2 ρ C e' us h' I2 (sr.mono t1) hm' ⟨C,G1,rfl,g1,q1⟩⟩
end
end
section
open PySem.W
set_option tactic.hygienic true in
theorem zK{env:Env}:∀(l:List (Str×nj))(acc:List (Str×bx)),l.filter (λp=>p.2==.free)=[]->(forIn l acc λ(p:Str×nj)(cs:List (Str×bx))=>(if p.2==.free then do let c ←cellOf env p.1;pure (ForInStep.yield ((p.1,c)::cs))else pure (ForInStep.yield cs):Sem (ForInStep (List (Str×bx)))))=pure acc
 |[],acc,_=>rfl
 |p::r,acc,h=>by
  rw[a0c]at h;split at h
  .cases h
  .rename_i q;rw[a0h,if_neg q,pure_bind];exact zK r acc h
set_option tactic.hygienic true in
theorem a2Q{env:Env}{x:Str}(hc:env.cells.lookup x=aj cc):∀(l:List (Str×nj))(acc:List (Str×bx)),l.filter (λp=>p.2==.free)=[(x,.free)]->(forIn l acc λ(p:Str×nj)(cs:List (Str×bx))=>(if p.2==.free then do let c ←cellOf env p.1;pure (ForInStep.yield ((p.1,c)::cs))else pure (ForInStep.yield cs):Sem (ForInStep (List (Str×bx)))))=pure ((x,cc)::acc)
 |[],acc,h=>by cases h
 |p::r,acc,h=>by
  rw[a0c]at h;split at h
  .rename_i q;have⟨e1,e2⟩:=List.cons.inj h;subst e1;rw[a0h,if_pos q];unfold cellOf;simp only[hc,pure_bind];exact zK r _ e2
  .rename_i q;rw[a0h,if_neg q,pure_bind];exact a2Q hc r acc h
theorem a5R(h:scope.names.filter (λp=>p.2==.free)=[(x,.free)])(hc:env.cells.lookup x=aj cc):closureFor scope env=pure [(x,cc)]:=by
 unfold closureFor;have:=a2Q hc scope.names [] h;simp only[bind_pure];refine Eq.trans ?_ this;congr 1
set_option tactic.hygienic true in
theorem av7{b:List kj}{t:TS}(h1:PSs X a t)(h2:PSs X b u):PSs X (a++b) (aAZ t u):=by
 intro pins s σ H D I h _tk;rw[a9R];refine au (cL (h1 pins s σ H {D with nx:=u D} I h) λf s1 q=>?_);intro aGP;cases f with
 |next =>
  obtain⟨σ',H',I',q⟩:=q;exact h2 pins s1 σ' H' D I' q
 |ret v=>exact dh q
 |brk=>exact dh q
 |cont=>exact dh q
structure Tq(H H':Hp):Prop where
 tups:∀a xs,H a=aj (.tup xs)->H' a=aj (.tup xs)
 aCD:∀a o xs,H a=aj (.gK o (.tup xs))->H' a=aj (.gK o (.tup xs))
theorem Tq.sqT{K:Fg}(t:Tq H H')(h:oH K H a xs):oH K H' a xs:=by
 rcases h with(h|⟨o,h⟩)|h
 .exact .inl (.inl (t.tups _ _ h))
 .exact .inl (.inr ⟨o,t.aCD _ _ _ h⟩)
 .exact .inr h
mutual
theorem RD.aiP{K:Fg}{H H':Hp}(t:Tq H H'):∀{d:D}{v:V},RD K H d v->RD K H' d v
 |_,_,.non=>.non
 |_,_,.bl b=>.bl b
 |_,_,.int i=>.int i
 |_,_,.str x=>.str x
 |_,_,.ty n=>.ty n
 |_,_,.ref a=>.ref a
 |_,_,.tup h r e=>.tup (t.sqT h) (bQ.aiP t r) trivial
theorem bQ.aiP{K:Fg}{H H':Hp}(t:Tq H H'):∀{ds:List D}{vs:List V},bQ K H ds vs->bQ K H' ds vs
 |_,_,.nil=>.nil
 |_,_,.cons h r=>.cons (RD.aiP t h) (bQ.aiP t r)
end
noncomputable def aIF:GO->Bool
 |.clo _ _=>ak
 |_=>ao
noncomputable def offC(G:Gp):Gp:=λa=>match G a with
 |some o=>if aIF o then aq else aj o
 |none=>aq
section
end
noncomputable def adM(qt:Bool)(P:jt)(w:iy)(K:Fg)(mg:Str->Option bh)(base:jj)(k:Nat)(c:ao2)(sp:gW):Prop :=
 ∀(A:iw)(outer:List Env)(s:cj)(H:Hp)(us:List bh)(vs:List V)(ds:List D)(d:D)(G:Gp)(R:fL)(E:XK)(f:bx),d9 qt k A->yD P w K mg base A outer s H->A.handled=aq->HR K H G->G f=aj (.clo c d)->Vals vs us->bQ K H ds vs->sp (d::ds) (offC G) R (λ_ _=>False) ->
  yu (fj P w) A (.call (.ref f) ⟨us,[]⟩) (CR (gZ P w) outer P w H s (λv H'=>∃d' G2,RD K H' d' v/\HR K H' G2/\R d' G2) E) s
section
end
end
variable{B:jj}
section
noncomputable def jQ:aN->Nat->aN
 |[],_=>[]
 |_::r,0=>aq::r
 |x::r,n+1=>x::jQ r n
noncomputable def rP:St->Nat->St
 |[],_=>[]
 |_::r,0=>aq::r
 |x::r,n+1=>x::rP r n
theorem SR.clr{K:Fg}:∀{ρ:aN}{σ:St}(i:Nat),SR K H ρ σ->SR K H (jQ ρ i) (rP σ i)
 |_,_,_,.nil=>.nil
 |_,_,0,.none r=>.none r
 |_,_,0,.some _ r=>.none r
 |_,_,i+1,.none r=>.none (SR.clr i r)
 |_,_,i+1,.some h r=>.some h (SR.clr i r)
theorem zL:∀(σ:St)(i:Nat),(rP σ i).length=σ.length
 |[],_=>rfl
 |_::_,0=>rfl
 |_::r,i+1=>congrArg (·+1) (zL r i)
theorem zM:∀(σ:St)(i j:Nat)(v:V),(rP σ i)[j]?=aj (aj v)->j≠i/\σ[j]?=aj (aj v)
 |[],_,_,_,h=>by simp[rP]at h
 |_::_,0,0,_,h=>by simp[rP]at h
 |_::_,0,j+1,_,h=>⟨by omega,by simpa[rP]using h⟩
 |_::_,i+1,0,_,h=>⟨by omega,by simpa[rP]using h⟩
 |_::r,i+1,j+1,v,h=>by
  obtain⟨a,b⟩:=zM r i j v (by simpa[rP]using h);exact⟨by omega,by simpa using b⟩
variable{x:bx}{i:Nat}
section
variable{X:Cx}
noncomputable def xeT(X:Cx)(EX:aN->aX):bh->cj->Prop:=λe s'=>∃pins σ H s ρ,Inv X pins σ H s/\SR X.K H ρ σ/\gZ X.prog X.w X.stack H s (a2P X.K (EX ρ)) e s'
noncomputable abbrev av8(X:Cx)(pn:List (bx×Obj))(EX:aN->aX):Cx:={X with pn:=X.pn++pn,xe:=xeT {X with pn:=X.pn++pn} EX}
noncomputable abbrev al8(X:Cx)(x:bx):Cx:={X with A:=X.A.mark (aj (.ref x)),calm:=false,xe:=λ_ _=>False,need:=false}
theorem aIG(ok:X.Ok)(pn:List (bx×Obj))(E:bh->cj->Prop):({X with pn:=pn,xe:=E}:Cx).Ok :=
 ⟨ok.mod,ok.kind,ok.glob,ok.blt,ok.above,ok.inj,ok.has,ok.cab,ok.hd,ok.frames,ok.stk,ok.exf,ok.bs,ok.bsz,ok.a3K,ok.a4Y,ok.nF,ok.frf⟩
theorem av9(I:Inv X pins σ H s)(E:bh->cj->Prop):Inv ({X with pn:=X.pn++pins,xe:=E}:Cx) [] σ H s :=
 ⟨aIG I.ok _ _,I.os,I.bare,I.base,I.loc,I.cell,I.free,I.gM,λp hp=>I.pin p (by simpa using hp),I.hok,I.len,I.hnd,I.tup⟩
theorem pU(I:Inv ({X with pn:=X.pn++pins,xe:=E}:Cx) uG σ H s):Inv X pins σ H s :=
 ⟨⟨I.ok.mod,I.ok.kind,I.ok.glob,I.ok.blt,I.ok.above,I.ok.inj,I.ok.has,I.ok.cab,I.ok.hd,I.ok.frames,I.ok.stk,I.ok.exf,I.ok.bs,I.ok.bsz,I.ok.a3K,I.ok.a4Y,I.ok.nF,I.ok.frf⟩,I.os,I.bare,I.base,I.loc,I.cell,I.free,I.gM,λp hp=>I.pin p (a1f _ hp),I.hok,I.len,I.hnd,I.tup⟩
theorem aiQ(I:Inv X pins σ H s)(x:bx)(q:Hnd (X.A.mark (aj (.ref x))) H):Inv (al8 X x) pins σ H s :=
 ⟨⟨I.ok.mod,I.ok.kind,I.ok.glob,I.ok.blt,I.ok.above,I.ok.inj,I.ok.has,I.ok.cab,(λz=>nomatch z),I.ok.frames,I.ok.stk,I.ok.exf,I.ok.bs,I.ok.bsz,I.ok.a3K,I.ok.a4Y,I.ok.nF,I.ok.frf⟩,I.os,I.bare,I.base,I.loc,I.cell,I.free,I.gM,I.pin,I.hok,I.len,q,I.tup⟩
theorem wH(ok:X.Ok)(hn:X.A.handled=aq)(I:Inv (al8 X x) pins σ H s):Inv X pins σ H s :=
 ⟨ok,I.os,I.bare,I.base,I.loc,I.cell,I.free,I.gM,I.pin,I.hok,I.len,.inl hn,I.tup⟩
theorem aNJ(pn:List (bx×Obj))(EX:aN->aX):Cat (av8 X pn EX) EX:=⟨λpins σ H s ρ e s' I sr c =>
 ⟨pins,σ,H,s,ρ,⟨⟨I.ok.mod,I.ok.kind,I.ok.glob,I.ok.blt,I.ok.above,I.ok.inj,I.ok.has,I.ok.cab,I.ok.hd,I.ok.frames,I.ok.stk,I.ok.exf,I.ok.bs,I.ok.bsz,I.ok.a3K,I.ok.a4Y,I.ok.nF,I.ok.frf⟩,I.os,I.bare,I.base,I.loc,I.cell,I.free,I.gM,I.pin,I.hok,I.len,I.hnd,I.tup⟩,sr,c⟩⟩
theorem aCE{P:jt}{w:iy}{s s':cj}(fl:Fly B l x (.ref C) s'.heap)(cov:∀b o,s.heap.get? b=aj o->H b=aq->b∉frs l->B.get? b=aj o)
  (agU:∀b o,s.heap.get? b=aj o->b∉frs l->∃o',B.get? b=aj o')(un:Un (frs l) [] H H' s.heap s'.heap)(st:B.StaysIn h2)(up:s'.heap.UpToSlots h2):Un (frs l) [] H H' s.heap h2:=by
 have hfd:∀b∈frs l,∀o,s'.heap.get? b=aj o->∀vs,o.data≠.fields vs:=λb hb o e=>by
  obtain⟨_,o',ho',hd⟩:=fl.aAJ.mem hb;rw[e]at ho';cases ho';exact hd
 refine⟨λb o eb nb hb _=>st b o (cov b o eb nb hb),λb o eb nb hb hx=>?_,un.free,λb o eb hx=>?_,un.tups,un.fK,un.nD⟩
 .obtain⟨sl,e1⟩:=un.slot b o eb nb hb hx;obtain⟨sl2,e2⟩:=up b _ e1 (hfd b hb _ e1);exact⟨sl2,e2⟩
 .by_cases hb:b∈frs l
  .obtain⟨o2,e2⟩:=un.there b o eb hx;obtain⟨sl,e3⟩:=up b o2 e2 (hfd b hb o2 e2);exact⟨_,e3⟩
  .obtain⟨o2,e2⟩:=agU b o eb hb;exact⟨o2,st b o2 e2⟩
theorem a4I{A:iw}(I:Inv X pins σ H s)(hN:X.N.Nodup)(hi:X.N[i]?=aj n)(hl:X.env.kindOf n=aj .local)
  (h:∀s',Inv X pins (rP σ i) H s'->Q () s'):cu M A (do bindName X.env n .none;unbindBehindTheSuite X.env n pos) Q E s:=by
 obtain⟨m,hn,hlo⟩:=id I.loc;have cne:=I.cne;refine wpAny_nameGoes_keeps hl hn (by rw[I.ok.kind];rfl) λh' v hn' hs=>?_;obtain⟨oL,_,_,hoL,_⟩:=id hn;refine h _ ⟨I.ok,I.os,I.bare,⟨λb o e n hb hx=>?_,λb o e n hb hx=>?_,I.base.free,λb o e hx=>?_,I.base.tups,I.base.fK,I.base.nD⟩,⟨_,hn',λj y v' e1 e2 e3=>?_⟩,λy c e=>?_,I.free,I.gM,λp hp=>?_,λb ob e=>?_,(zL σ i).trans I.len,I.hnd,I.tup⟩
 .exact(hs.2 b (jd (iz (gk e) I.ok.above))).trans (I.base.keep b o e n hb hx)
 .obtain⟨sl,e1⟩:=I.base.slot b o e n hb hx;exact⟨sl,(hs.2 b (jd (iz (gk e) I.ok.above))).trans e1⟩
 .obtain⟨o',e1⟩:=I.base.there b o e hx;exact⟨o',(hs.2 b (jd (iz (gk e) I.ok.above))).trans e1⟩
 .obtain⟨hj,e2'⟩:=zM σ i j v' e2;obtain⟨u',r',q⟩:=hlo j y v' e1 e2' e3;refine⟨u',r',?_⟩;rcases q with⟨k,e⟩|⟨k,c,e,z⟩
  .refine .inl ⟨k,?_⟩;have:y≠n:=λe=>hj (a4Z hN e1 (e ▸ hi));simp[this,e]
  .exact .inr ⟨k,c,e,z.sameBut hs (cne y c e)⟩
 .obtain⟨w',z⟩:=I.cell y c e;exact⟨w',z.sameBut hs (cne y c e)⟩
 .obtain⟨e,n,ne,nf,d⟩:=I.pin p hp;exact⟨(hs.2 p.1 ne).trans e,n,ne,nf,d⟩
 .refine(I.hok b ob e).stay (λc w' hc q=>(hs.2 c ?_).trans q) (λ_ q=>q) λ_ _ q=>q;rintro rfl;have hfree:=I.free;rcases hc with z|hc
  .rw[z,e]at hfree;cases hfree
  .rw[hfree]at hc;cases hc
set_option tactic.hygienic true in
theorem aNK{A:iw}{K:Fg}{s:cj}{oe:Obj}{b:Bool}(KX:K.In s.heap)(he:s.heap.get? x=aj oe)(hcls:oe.cls=.ref C)
  (hc:(vf K Dc).isSome=ak)(ht:a0p K (.ref Dc)=aj (.type "type"))(hb:uf K (.ref Dc) (.type "BaseException")=aj ak)(hs:uf K (.ref C) (.ref Dc)=aj b)(h:Q b s):cu M A (excMatches (.ref x) (.ref Dc)) Q E s:=by
 have l1:uq M s.heap (typeOf (.ref Dc)) (.type "type"):=PySem.W.looks_typeIn KX ht;have l2:uq M s.heap (isSubtype (.ref Dc) (.type "BaseException")) ak:=PySem.W.looks_subIn KX hb;have l3:uq M s.heap (isSubtype (.ref C) (.ref Dc)) b:=PySem.W.looks_subIn KX hs
 have l4:uq M s.heap (typeOf (.ref x)) (.ref C):=by
  have z:=(uq.ld (M:=M) (part:=none) he).andThen (f:=λo=>pure o.cls) (b:=.ref C) (by rw[hcls];exact .now);exact z
 have l0:uq M s.heap (isSubtype (.type "type") (.type "tuple")) ao:=.of_pure tc_notTuple
 have lt:uq M s.heap (isType (.ref Dc)) ak:=by
  intro A' Q' E' s' k q;cases eK:vf K Dc with
  |none=>rw[eK]at hc;cases hc
  |some cd =>
   unfold vf at eK;split at eK
   .rename_i ho;unfold isType loadHead;exact au (wpAny_loadPart (k _ _ (KX _ _ ho)) (dh q))
   .cases eK
 unfold excMatches isInstance isExcClass
 repeat (first|with_reducible refine uq.here l0 ?_|with_reducible refine uq.here l1 ?_|with_reducible refine uq.here l2 ?_|with_reducible refine uq.here l3 ?_|with_reducible refine uq.here l4 ?_|with_reducible refine uq.here lt ?_|wp_step)
 cases b<;>(wp_walk;exact h)
noncomputable def adN(K:Fg)(Dc:bx)(i:Nat)(tb:(aN->aX)->bI)(th:bI):bI:=λF ρ G =>
 tb (λρ1 C G1=>uf K (.ref C) (.ref Dc)=aj ak/\∀x,G1 x=aq->th {nx:=λρ2 G2=>F.nx (jQ ρ2 i) G2,rt:=F.rt,bk:=λρ2 G2=>F.bk (jQ ρ2 i) G2,ct:=λρ2 G2=>F.ct (jQ ρ2 i) G2} (xD ρ1 i (.ref x)) (aL G1 x (.exn C))) F ρ G
set_option tactic.hygienic true in
theorem aoC(h:SP (av8 X pins EX) [] F f s):SP X pins F f s:=by
 cases f with
 |next=>obtain⟨σ',H',I,q⟩:=h;exact⟨σ',H',pU I,q⟩
 |brk=>obtain⟨σ',H',I,q⟩:=h;exact⟨σ',H',pU I,q⟩
 |cont=>obtain⟨σ',H',I,q⟩:=h;exact⟨σ',H',pU I,q⟩
 |ret u=>obtain⟨v,σ',H',I,r,q⟩:=h;exact⟨v,σ',H',pU I,r,q⟩
theorem adO{w:iy}(hok:u9 P w H B)(n:B.get? x=aq):H x=aq:=by
 cases e0:H x with
 |none=>rfl
 |some o =>
  have lt:=(hok x o e0)
  obtain⟨o',ho'⟩:∃o',B.get? x=aj o':=by
   cases o with
   |lst xs=>obtain⟨_,_,_,_,e⟩:=lt;exact⟨_,e⟩
   |tup xs=>obtain⟨_,_,_,o,e,_⟩:=lt;exact⟨_,e⟩
   |dK kvs=>obtain⟨_,_,_,_,o,_,_,e,_⟩:=lt;exact⟨_,e⟩
   |dT kvs=>obtain⟨_,_,_,_,o,_,_,e,_⟩:=lt;exact⟨_,e⟩
   |set S n=>obtain⟨o,_,_,_,e,_⟩:=lt;exact⟨_,e⟩
   |ins C dx fs=>obtain⟨_,_,_,e,_⟩:=lt;exact⟨_,e⟩
   |own y=>obtain⟨_,e⟩:=lt;exact⟨_,e⟩
   |xd fs=>obtain⟨_,⟨_,_,_,e,_⟩,_⟩:=lt;exact⟨_,e⟩
   |rng lo hi=>obtain⟨_,_,_,e⟩:=lt;exact⟨_,e⟩
   |gK ob u=>obtain⟨e,_⟩:=lt;exact⟨_,e⟩
   |xH ps=>exact⟨_,(show B.get? x=aj _ from lt)⟩
   |met f y=>exact⟨_,(show B.get? x=aj _ from lt)⟩
   |ext φ=>obtain⟨_,⟨_,e⟩,_⟩:=lt;exact⟨_,e⟩
  rw[n]at ho';cases ho'
set_option tactic.hygienic true in
theorem aIH{body:List kj}
  (hcm:X.calm=ak)(hN:X.N.Nodup)(hi:X.N[i]?=aj n)(hl:X.env.kindOf n=aj .local)(hst:X.stack=X.env::X.outer)(hfn:X.env.frame=aj X.env.locals)
  (hg:Gl X cx)(hm:X.mg cx=aj (.ref Dc))(hc:(vf X.K Dc).isSome=ak)(ht:a0p X.K (.ref Dc)=aj (.type "type"))(hbx:uf X.K (.ref Dc) (.type "BaseException")=aj ak)
  (hb:∀pn EX,xE (av8 X pn EX) body (tb EX))(hh:∀x,xE (al8 X x) (b₀::suite) th)(hd:(cx==("__debug__":Str))=ao:=by decide) :
  PS3 X (.Try body [.ExceptHandler (aj (.Name cx cp)) (aj n) (b₀::suite) hpos] [] [] pos) (adN X.K Dc i tb th):=by
 intro pins s σ H F I h _tk;obtain⟨ρ,G,E3,sr,g,q,d⟩:=h;refine wpAny_Try_except (lg (hb pins _ [] s σ H F (av9 I _) ⟨ρ,G,E3,sr,g,q,d⟩) (λf s1 q1=>?_) λe s1 q1=>?_)
 .have q2:=aoC q1;cases f with
  |next=>exact wpAny_execs_nil q2
  |brk=>exact q2
  |cont=>exact q2
  |ret u=>exact q2
 .obtain⟨uG,σ1,H1,s0,ρ1,I1,sr1,x,C,H',B,rfl,fl,hok,cov,agU,un,os,bare,c,G',e2,g',hsub,hth⟩:=q1;cases e2;have J1:Inv X pins σ1 H1 s0:=pU I1;have hn:X.A.handled=aq:=I.ok.hd hcm;have hfr:X.A.frames=aj (X.env::X.outer):=by rw[←hst];exact I.ok.frames
  have fl':Fly B (X.env::X.outer) x (.ref C) s1.heap:=by rw[←hst];exact fl
  refine aiA (B:=B) hfr hfn fl' λh4 aII sm4=>?_;refine a4D aII λh5 fl5 sm5=>?_;have hxB:B.get? x=aq:=fl.new;have nxH:H' x=aq:=adO hok hxB
  have track:∀(h6:jj)(oe:Obj)(ws:Array bh),Fly B (X.env::X.outer) x (.ref C) h6->s1.heap.UpToSlots h6->h6.get? x=aj oe->oe.cls=.ref C->oe.data=.fields ws ->
    Inv X pins σ1 (upd H' x (.gK oe (.ext (xO C x)))) {s1 with heap:=h6}/\Ts H1 (upd H' x (.gK oe (.ext (xO C x)))):=by
   intro h6 oe ws fl6 sm al9 aoD a9U;have un6:=aCE (P:=X.prog) (w:=X.w) fl cov agU un fl6.stays sm
   have nx0:s0.heap.get? x=aq:=by
    cases e0:s0.heap.get? x with
    |none=>rfl
    |some o =>
     by_cases hx:x∈frs X.stack
     .obtain⟨_,o',ho',hd'⟩:=fl6.aAJ.mem (by rw[←hst];exact hx);rw[al9]at ho';cases ho';exact absurd a9U (hd' ws)
     .obtain⟨o',ho'⟩:=agU x o e0 hx;rw[hxB]at ho';cases ho'
   have sn:Same H' (upd H' x (.gK oe (.ext (xO C x)))):=bB nxH;have nst:∀b o,s0.heap.get? b=aj o->b≠x:=λb o e z=>by subst z;rw[nx0]at e;cases e
   have un7:Un (frs X.stack) [] H1 (upd H' x (.gK oe (.ext (xO C x)))) s0.heap h6:=⟨un6.keep,un6.slot,λb o e n hx=>by rw[aJ (nst b o e)];exact un6.free b o e n hx,un6.there,λb xs z=>sn _ _ (un6.tups b xs z),λb o u z=>sn _ _ (un6.fK b o u z),λb ps z=>by
    obtain⟨m,e⟩:=un6.nD b ps z;exact⟨m,sn _ _ e⟩⟩
   have aNO:u9 X.prog X.w (upd H' x (.gK oe (.ext (xO C x)))) h6:=λb o e=>by
    by_cases hb:b=x
    .subst hb;rw[aF]at e;cases e;refine⟨al9,⟨oe,ws,al9,aoD,a9U⟩,⟨oe,al9⟩,λh1 h2 ⟨o1,w1,e1,e2,e3⟩ k=>⟨o1,w1,k _ e1,e2,e3⟩⟩
    .rw[aJ hb]at e;exact((hok.kept fl6.stays) b o e).stay (λ_ _ _ z=>z) (λc z=>sn _ _ z) λc xs z=>sn _ _ z
   exact⟨J1.call' (ch:=[]) (s':={s1 with heap:=h6}) os un7 aNO bare (λb z=>absurd z (by simp)),un7.tups,un7.fK⟩
  obtain⟨oe,ws5,hoe,hoec,hoed,aNP⟩:=fl5.fld;obtain⟨J5,_⟩:=track h5 oe ws5 fl5 (sm4.trans sm5) hoe hoec hoed;refine wpAny_handleBy_cons (codeAny_handlers_test ?_) (by intro q;cases q);refine mH (X:=al8 X x) (aiQ J5 x (.inr ⟨x,oe,_,ws5,rfl,aF,hoed,aNP⟩)) hg hm ?_ hd;refine aNK (K:=X.K) J5.kIn hoe hoec hc ht hbx hsub ?_;refine codeAny_handlers_suite_as ?_;refine a4D fl5 λh6 fl6 sm6=>?_;obtain⟨oe6,ws,al9,aoD,a9U,azN⟩:=fl6.fld;obtain⟨J7,tt⟩:=track h6 oe6 ws fl6 ((sm4.trans sm5).trans sm6) al9 aoD a9U;have gx:G' x=aq:=gP (K:=X.K) g' nxH (oM (X:=X) J7);refine a5A (X:=al8 X x) (aiQ J7 x (.inr ⟨x,oe6,_,ws,rfl,aF,a9U,azN⟩)) hN hi (.inl hl) (v:=.ref x) (u:=.ref x) rfl (λs8 J8=>?_) (.inr hl);have q8:=hth x gx
  refine lg (hh x pins s8 _ _ {nx:=λσ2 H2=>F.nx (rP σ2 i) H2,rt:=F.rt,bk:=λσ2 H2=>F.bk (rP σ2 i) H2,ct:=λσ2 H2=>F.ct (rP σ2 i) H2} J8
   ⟨xD ρ1 i (.ref x),aL G' x (.exn C),_,(sr1.mono tt).set (.ref x) i,g'.put (u:=.exn C) nxH ⟨oe6,ws,aF,a9U,azN⟩,q8,⟨λρ2 G2 σ2 H2 s2 g2 z=>d.nx _ G2 _ H2 (s2.clr i) g2 z,d.rt,λρ2 G2 σ2 H2 s2 g2 z=>d.bk _ G2 _ H2 (s2.clr i) g2 z,λρ2 G2 σ2 H2 s2 g2 z=>d.ct _ G2 _ H2 (s2.clr i) g2 z⟩⟩) (λf s9 q9=>?_) λ_ _ z=>z.elim
  cases f with
  |next=>obtain⟨σ2,H2,I2,z⟩:=q9;exact a4I (wH J7.ok hn I2) hN hi hl λs10 I10=>⟨_,H2,I10,z⟩
  |brk=>obtain⟨σ2,H2,I2,z⟩:=q9;exact a4I (wH J7.ok hn I2) hN hi hl λs10 I10=>⟨_,H2,I10,z⟩
  |cont=>obtain⟨σ2,H2,I2,z⟩:=q9;exact a4I (wH J7.ok hn I2) hN hi hl λs10 I10=>⟨_,H2,I10,z⟩
  |ret u=>obtain⟨v,σ2,H2,I2,r2,z⟩:=q9;exact a4I (wH J7.ok hn I2) hN hi hl λs10 I10=>⟨v,_,H2,I10,r2,z⟩
end
end
section
variable{n:Nat}
section
variable{X:Cx}{a b:jf}{pos:Pos}
noncomputable def a9V(t:cB):cB:=λρ G R=>t ρ G λx G1=>match x with
 |.int i=>R (.int (-i)) G1
 |_=>False
theorem aIJ(ha:cF X a ta):cF X (.UnaryOp .USub a pos) (a9V ta):=PE.imp (aH3 aBC ha) λσ H Q h=>by
 obtain⟨ρ,G,R,s,g,t,k⟩:=h;refine⟨ρ,G,_,s,g,t,λv H1 x G1 t1 r g1 q=>?_⟩;cases r with
 |int i=>exact⟨i,rfl,k _ H1 _ G1 t1 (.int _) g1 q⟩
 |_=>exact False.elim q
noncomputable def aV:Nat->D->Bool
 |0,.tup _=>ao
 |n+1,.tup xs=>xs.all (aV n)
 |_,.ref _=>ao
 |_,.ty _=>ao
 |_,_=>ak
mutual
noncomputable def eqP:D->D->Bool
 |.non,.non=>ak
 |.bl a,.bl b=>a==b
 |.bl a,.int b=>(if a then 1 else 0)==b
 |.int a,.bl b=>a==(if b then 1 else 0)
 |.int a,.int b=>a==b
 |.str a,.str b=>a==b
 |.tup xs,.tup ys=>pG xs ys
 |_,_=>ao
noncomputable def pG:List D->List D->Bool
 |[],[]=>ak
 |x::xs,y::ys=>eqP x y&&pG xs ys
 |_,_=>ao
end
noncomputable def rQ(xs ys:List D)(j:Nat):Bool:=match xs[j]?,ys[j]? with
 |some a,aj b=>eqP a b
 |_,_=>ao
theorem uL(n:Nat)(e:Nat->Bool):(jy (n+1)).all e=(e 0&&(jy n).all λj=>e (j+1)):=by
 rw[List.range_succ_eq_map,wk,List.all_map];rfl
theorem jR:∀(xs ys:List D),pG xs ys=((jy (min xs.length ys.length)).all (rQ xs ys)&&xs.length==ys.length)
 |[],[]=>rfl
 |[],y::ys=>by simp[pG]
 |x::xs,[]=>by simp[pG]
 |x::xs,y::ys=>by
  have ih:=jR xs ys;have e:min (x::xs).length (y::ys).length=min xs.length ys.length+1:=by simp only[ug];omega
  rw[pG,ih,e,uL];have e0:rQ (x::xs) (y::ys) 0=eqP x y:=rfl
  have e1:(λj=>rQ (x::xs) (y::ys) (j+1))=rQ xs ys:=by
   funext j;simp[rQ]
  have e2:((x::xs).length==(y::ys).length)=(xs.length==ys.length):=by
   simp only[ug];by_cases h:xs.length=ys.length
   .simp[h]
   .have h':¬ (xs.length+1=ys.length+1):=by omega
    simp[h,h']
  rw[e0,e1,e2,Bool.and_assoc]
theorem adP{xs ys:List D}(h:(xs.length !=ys.length)=ak):pG xs ys=ao:=by
 rw[jR];have:(xs.length==ys.length)=ao:=by simpa using h
 rw[this,a1J]
theorem a9W{xs ys:List D}(h:xs.length=ys.length):pG xs ys=(jy xs.length).all (rQ xs ys):=by
 rw[jR,h];simp
theorem bQ.aIK{K:Fg}(ih:∀{x y:D}{v:V},aV n x=ak->aV n y=ak->RD K H x v->RD K H y v->x=y):∀{xs ys:List D},(∀x∈xs,aV n x=ak)->(∀y∈ys,aV n y=ak)->bQ K H xs vs->bQ K H ys vs->xs=ys:=by
 induction vs with
 |nil=>intro xs ys _ _ h1 h2;cases h1;cases h2;rfl
 |cons v vs jh =>
  intro xs ys hx hy h1 h2;cases h1 with
  |cons a r =>
  cases h2 with
  |cons b t=>rw[ih (hx _ (qu ..)) (hy _ (qu ..)) a b,jh (λx m=>hx x (jw _ m)) (λy m=>hy y (jw _ m)) r t]
theorem RD.inj(I:Inv X pins σ H s):∀{x y:D}{v:V},aV n x=ak->aV n y=ak->RD X.K H x v->RD X.K H y v->x=y:=by
 induction n with
 |zero=>intro x y v hx hy h1 h2;cases h1<;>cases h2<;>first|rfl|cases hx|cases hy
 |succ n ih =>
  intro x y v hx hy h1 h2;cases h1 with
  |tup s1 r1 _ =>
   cases h2 with
   |tup s2 r2 _ =>
    have e:=I.wG s1 s2;subst e;rw[bQ.aIK ih (by simpa[aV]using hx) (by simpa[aV]using hy) r1 r2]
   |ref=>cases hy
  |ref=>cases hx
  |_=>cases h2;rfl
mutual
theorem a5S:∀{n:Nat}{x:D},aV n x=ak->eqP x x=ak
 |_,.non,_=>rfl
 |_,.bl b,_=>by simp[eqP]
 |_,.int b,_=>by simp[eqP]
 |_,.str b,_=>by simp[eqP]
 |n,.ref _,h=>by cases n<;>simp[aV]at h
 |n,.ty _,h=>by cases n<;>simp[aV]at h
 |0,.tup _,h=>by simp[aV]at h
 |n+1,.tup xs,h=>by rw[eqP];exact wI (n:=n) (by simpa[aV]using h)
theorem wI:∀{n:Nat}{xs:List D},(∀x∈xs,aV n x=ak)->pG xs xs=ak
 |_,[],_=>rfl
 |n,x::xs,h=>by rw[pG,a5S (h x (by simp)),wI λy m=>h y (by simp[m])];rfl
end
theorem Vals.adQ{K:Fg}(r:bQ K H ds xs)(v:Vals xs us){j:Nat}(e:us[j]?=aj u):∃d x,ds[j]?=aj d/\RD K H d x/\RelV x u:=by
 have hj:j<us.length:=(gj.mp e).1;have hj':j<xs.length:=by rw[v.length];exact hj
 have ex:xs[j]?=aj xs[j]:=gw hj';obtain⟨u',e1,r1⟩:=v.get ex;rw[e]at e1;cases e1;obtain⟨d,e2,r2⟩:=r.adE ex;exact⟨d,_,e2,r2,r1⟩
theorem uM{A:iw}{K:Fg}{n:Nat}{us ws:List bh}(rx:bQ K H xs vx)(ry:bQ K H ys vy)(vx':Vals vx us)(vy':Vals vy ws)
  (ih:∀x∈xs,∀y∈ys,∀(v w:V)(u t:bh),RD K H x v->RD K H y w->RelV v u->RelV w t->SeqAt.EqAt A s u t (eqP x y)) :
  ∀j (h1:j<us.toArray.size) (h2:j<ws.toArray.size),SeqAt.EqAt A s us.toArray[j] ws.toArray[j] (rQ xs ys j):=by
 intro j h1 h2;have e1:us[j]?=aj us.toArray[j]:=by simp[gw (show j<us.length by simpa using h1)]
 have e2:ws[j]?=aj ws.toArray[j]:=by simp[gw (show j<ws.length by simpa using h2)]
 obtain⟨d,x,f1,f2,f3⟩:=Vals.adQ rx vx' e1;obtain⟨d',y,g1,g2,g3⟩:=Vals.adQ ry vy' e2;have e:rQ xs ys j=eqP d d':=by simp[rQ,f1,g1]
 rw[e];exact ih d (lq f1) d' (lq g1) x y _ _ f2 g2 f3 g3
noncomputable def scD:D->Bool
 |.non=>ak
 |.bl _=>ak
 |.int _=>ak
 |.str _=>ak
 |_=>ao
theorem avA{A:iw}{K:Fg}{x:D}(hx:scD x=ak)(hy:scD y=ak)(rx:RD K H x vx)(ry:RD K H y vy)(ru:RelV vx u)(rv:RelV vy v):SeqAt.EqAt A s u v (eqP x y):=by
 have fx:tK vx=ak:=by cases rx<;>first|rfl|cases hx
 have fy:tK vy=ak:=by cases ry<;>first|rfl|cases hy
 have e:eqV vx vy=eqP x y:=by cases rx<;>cases ry<;>first|(simp[eqV,eqP];done)|cases hx|cases hy
 rw[←e];exact a1H ru rv fx fy
theorem uN{A:iw}(h:A.units+(n+1)<kh):A.in1.units+n<kh:=by
 show A.units+1+n<kh;omega
theorem yH(I:Inv X pins σ H s):∀(n:Nat)(A:iw)(x y:D)(vx vy:V)(u v:bh),A.units+n<kh->aV n x=ak->aV n y=ak->RD X.K H x vx->RD X.K H y vy->RelV vx u->RelV vy v->SeqAt.EqAt A s u v (eqP x y):=by
 intro n
 induction n with
 |zero =>
  intro A x y vx vy u v hu hx hy rx ry ru rv;have sx:scD x=ak:=by cases x<;>first|rfl|(simp[aV]at hx)
  have sy:scD y=ak:=by cases y<;>first|rfl|(simp[aV]at hy)
  exact avA sx sy rx ry ru rv
 |succ n ih =>
  intro A x y vx vy u v hu hx hy rx ry ru rv;have hu0:A.units<kh:=by omega
  cases rx with
  |@tup ax xs ds hax rax eax =>
   cases ru;obtain⟨its,vv,px,_⟩:=I.tuple hax;cases ry with
   |@tup ay ys es hay ray eay =>
    cases rv;obtain⟨jts,ww,py,_⟩:=I.tuple hay;by_cases hab:ax=ay
    .subst hab;have e:=RD.inj I (n:=n+1) hx hy (.tup hax rax eax) (.tup hay ray eay);rw[e,a5S hy];exact SeqAt.EqAt.same _
    .refine SeqAt.EqAt.of_refs hab ?_
     have z:=SeqAt.RcAt.tuples (e:=rQ ds es) (show s.heap.IsTuple ax its.toArray from px) (show s.heap.IsTuple ay jts.toArray from py) hu0 (uM (n:=n) rax ray vv ww λx mx y my v w u t r1 r2 r3 r4 =>
           ih A.in1 x y v w u t (uN hu) (jq.mp (by simpa[aV]using hx) x mx) (jq.mp (by simpa[aV]using hy) y my) r1 r2 r3 r4)
     have e:((jy (min its.toArray.size jts.toArray.size)).all (rQ ds es)&&its.toArray.size==jts.toArray.size)=eqP (.tup ds) (.tup es):=by
           rw[eqP,jR,dj,dj,←vv.length,←ww.length,←rax.length,←ray.length]
     rw[e]at z;exact z
   |non=>cases rv;exact SeqAt.EqAt.tuple_none (show s.heap.IsTuple ax its.toArray from px) hu0
   |bl b=>cases rv;exact SeqAt.EqAt.tuple_bool b (show s.heap.IsTuple ax its.toArray from px) hu0
   |int i=>obtain⟨t,rfl⟩:=rv;exact SeqAt.EqAt.tuple_int i t (show s.heap.IsTuple ax its.toArray from px) hu0
   |str z=>obtain⟨t,rfl⟩:=rv;exact SeqAt.EqAt.tuple_str z t (show s.heap.IsTuple ax its.toArray from px) hu0
   |ref _=>simp[aV]at hy
   |ty _=>simp[aV]at hy
  |ref _=>simp[aV]at hx
  |ty _=>simp[aV]at hx
  |non =>
   cases ry with
   |@tup ay ys es hay ray =>
    cases rv;cases ru;obtain⟨jts,ww,py,_⟩:=I.tuple hay;exact SeqAt.EqAt.none_tuple (show s.heap.IsTuple ay jts.toArray from py) hu0
   |ref _=>simp[aV]at hy
   |ty _=>simp[aV]at hy
   |_=>exact a1H ru rv rfl rfl
  |bl b =>
   cases ry with
   |@tup ay ys es hay ray =>
    cases rv;cases ru;obtain⟨jts,ww,py,_⟩:=I.tuple hay;exact SeqAt.EqAt.bool_tuple b (show s.heap.IsTuple ay jts.toArray from py) hu0
   |ref _=>simp[aV]at hy
   |ty _=>simp[aV]at hy
   |_=>exact a1H ru rv rfl rfl
  |int i =>
   cases ry with
   |@tup ay ys es hay ray =>
    cases rv;obtain⟨t,rfl⟩:=ru;obtain⟨jts,ww,py,_⟩:=I.tuple hay;exact SeqAt.EqAt.int_tuple i t (show s.heap.IsTuple ay jts.toArray from py) hu0
   |ref _=>simp[aV]at hy
   |ty _=>simp[aV]at hy
   |_=>exact a1H ru rv rfl rfl
  |str z =>
   cases ry with
   |@tup ay ys es hay ray =>
    cases rv;obtain⟨t,rfl⟩:=ru;obtain⟨jts,ww,py,_⟩:=I.tuple hay;exact SeqAt.EqAt.str_tuple z t (show s.heap.IsTuple ay jts.toArray from py) hu0
   |ref _=>simp[aV]at hy
   |ty _=>simp[aV]at hy
   |_=>exact a1H ru rv rfl rfl
end
end
section
section
variable{X:Cx}
theorem aNU(I:Inv X pins σ H s)(n:Nat)(A:iw)(x y:D)(vx vy:V)(u v:bh)(hu:A.units+(n+1)<kh)(hx:aV (n+1) x=ak)(hy:aV (n+1) y=ak)(rx:RD X.K H x vx)(ry:RD X.K H y vy)(ru:RelV vx u)(rv:RelV vy v):SeqAt.RcAt A s u v (eqP x y):=by
 have hu0:A.units<kh:=by omega
 cases rx with
 |non =>
  cases ru;cases ry with
  |non =>
   cases rv
   first|exact SeqAt.RcAt.none_none|(simp only[eqP];exact SeqAt.RcAt.none_none)
  |bl b2 =>
   cases rv
   first|exact SeqAt.RcAt.none_bool b2|(simp only[eqP];exact SeqAt.RcAt.none_bool b2)
  |int i2 =>
   obtain⟨t2,rfl⟩:=rv
   first|exact SeqAt.RcAt.none_int i2 t2|(simp only[eqP];exact SeqAt.RcAt.none_int i2 t2)
  |str z2 =>
   obtain⟨t2,rfl⟩:=rv
   first|exact SeqAt.RcAt.none_str z2 t2|(simp only[eqP];exact SeqAt.RcAt.none_str z2 t2)
  |@tup a2 xs2 pW h2 r2 =>
   cases rv;obtain⟨its2,vv2,p2,_⟩:=I.tuple h2
   first|exact SeqAt.RcAt.none_tuple (show s.heap.IsTuple a2 its2.toArray from p2) hu0|(simp only[eqP];exact SeqAt.RcAt.none_tuple (show s.heap.IsTuple a2 its2.toArray from p2) hu0)
  |ref _=>simp[aV]at hy
  |ty _=>simp[aV]at hy
 |bl b1 =>
  cases ru;cases ry with
  |non =>
   cases rv
   first|exact SeqAt.RcAt.bool_none b1|(simp only[eqP];exact SeqAt.RcAt.bool_none b1)
  |bl b2 =>
   cases rv
   first|exact SeqAt.RcAt.bool_bool b1 b2|(simp only[eqP];exact SeqAt.RcAt.bool_bool b1 b2)
  |int i2 =>
   obtain⟨t2,rfl⟩:=rv
   first|exact SeqAt.RcAt.bool_int b1 i2 t2|(simp only[eqP];exact SeqAt.RcAt.bool_int b1 i2 t2)
  |str z2 =>
   obtain⟨t2,rfl⟩:=rv
   first|exact SeqAt.RcAt.bool_str b1 z2 t2|(simp only[eqP];exact SeqAt.RcAt.bool_str b1 z2 t2)
  |@tup a2 xs2 pW h2 r2 =>
   cases rv;obtain⟨its2,vv2,p2,_⟩:=I.tuple h2
   first|exact SeqAt.RcAt.bool_tuple b1 (show s.heap.IsTuple a2 its2.toArray from p2) hu0|(simp only[eqP];exact SeqAt.RcAt.bool_tuple b1 (show s.heap.IsTuple a2 its2.toArray from p2) hu0)
  |ref _=>simp[aV]at hy
  |ty _=>simp[aV]at hy
 |int i1 =>
  obtain⟨t1,rfl⟩:=ru;cases ry with
  |non =>
   cases rv
   first|exact SeqAt.RcAt.int_none i1 t1|(simp only[eqP];exact SeqAt.RcAt.int_none i1 t1)
  |bl b2 =>
   cases rv
   first|exact SeqAt.RcAt.int_bool i1 t1 b2|(simp only[eqP];exact SeqAt.RcAt.int_bool i1 t1 b2)
  |int i2 =>
   obtain⟨t2,rfl⟩:=rv
   first|exact SeqAt.RcAt.int_int i1 t1 i2 t2|(simp only[eqP];exact SeqAt.RcAt.int_int i1 t1 i2 t2)
  |str z2 =>
   obtain⟨t2,rfl⟩:=rv
   first|exact SeqAt.RcAt.int_str i1 t1 z2 t2|(simp only[eqP];exact SeqAt.RcAt.int_str i1 t1 z2 t2)
  |@tup a2 xs2 pW h2 r2 =>
   cases rv;obtain⟨its2,vv2,p2,_⟩:=I.tuple h2
   first|exact SeqAt.RcAt.int_tuple i1 t1 (show s.heap.IsTuple a2 its2.toArray from p2) hu0|(simp only[eqP];exact SeqAt.RcAt.int_tuple i1 t1 (show s.heap.IsTuple a2 its2.toArray from p2) hu0)
  |ref _=>simp[aV]at hy
  |ty _=>simp[aV]at hy
 |str z1 =>
  obtain⟨t1,rfl⟩:=ru;cases ry with
  |non =>
   cases rv
   first|exact SeqAt.RcAt.str_none z1 t1|(simp only[eqP];exact SeqAt.RcAt.str_none z1 t1)
  |bl b2 =>
   cases rv
   first|exact SeqAt.RcAt.str_bool z1 t1 b2|(simp only[eqP];exact SeqAt.RcAt.str_bool z1 t1 b2)
  |int i2 =>
   obtain⟨t2,rfl⟩:=rv
   first|exact SeqAt.RcAt.str_int z1 t1 i2 t2|(simp only[eqP];exact SeqAt.RcAt.str_int z1 t1 i2 t2)
  |str z2 =>
   obtain⟨t2,rfl⟩:=rv
   first|exact SeqAt.RcAt.str_str z1 t1 z2 t2|(simp only[eqP];exact SeqAt.RcAt.str_str z1 t1 z2 t2)
  |@tup a2 xs2 pW h2 r2 =>
   cases rv;obtain⟨its2,vv2,p2,_⟩:=I.tuple h2
   first|exact SeqAt.RcAt.str_tuple z1 t1 (show s.heap.IsTuple a2 its2.toArray from p2) hu0|(simp only[eqP];exact SeqAt.RcAt.str_tuple z1 t1 (show s.heap.IsTuple a2 its2.toArray from p2) hu0)
  |ref _=>simp[aV]at hy
  |ty _=>simp[aV]at hy
 |@tup a1 xs1 ds1 h1 r1 =>
  cases ru;obtain⟨eO,vv1,p1,_⟩:=I.tuple h1;cases ry with
  |non =>
   cases rv
   first|exact SeqAt.RcAt.tuple_none (show s.heap.IsTuple a1 eO.toArray from p1) hu0|(simp only[eqP];exact SeqAt.RcAt.tuple_none (show s.heap.IsTuple a1 eO.toArray from p1) hu0)
  |bl b2 =>
   cases rv
   first|exact SeqAt.RcAt.tuple_bool b2 (show s.heap.IsTuple a1 eO.toArray from p1) hu0|(simp only[eqP];exact SeqAt.RcAt.tuple_bool b2 (show s.heap.IsTuple a1 eO.toArray from p1) hu0)
  |int i2 =>
   obtain⟨t2,rfl⟩:=rv
   first|exact SeqAt.RcAt.tuple_int i2 t2 (show s.heap.IsTuple a1 eO.toArray from p1) hu0|(simp only[eqP];exact SeqAt.RcAt.tuple_int i2 t2 (show s.heap.IsTuple a1 eO.toArray from p1) hu0)
  |str z2 =>
   obtain⟨t2,rfl⟩:=rv
   first|exact SeqAt.RcAt.tuple_str z2 t2 (show s.heap.IsTuple a1 eO.toArray from p1) hu0|(simp only[eqP];exact SeqAt.RcAt.tuple_str z2 t2 (show s.heap.IsTuple a1 eO.toArray from p1) hu0)
  |@tup a2 xs2 pW h2 r2 =>
   cases rv;obtain⟨its2,vv2,p2,_⟩:=I.tuple h2
   have z:=SeqAt.RcAt.tuples (e:=rQ ds1 pW) (show s.heap.IsTuple a1 eO.toArray from p1) (show s.heap.IsTuple a2 its2.toArray from p2) hu0 (uM (n:=n) r1 r2 vv1 vv2 λx mx y my v w u t q1 q2 q3 q4 =>
      yH I n A.in1 x y v w u t (uN hu) (jq.mp (by simpa[aV]using hx) x mx) (jq.mp (by simpa[aV]using hy) y my) q1 q2 q3 q4)
   have e:((jy (min eO.toArray.size its2.toArray.size)).all (rQ ds1 pW)&&eO.toArray.size==its2.toArray.size)=eqP (.tup ds1) (.tup pW):=by
    rw[eqP,jR,dj,dj,←vv1.length,←vv2.length,←r1.length,←r2.length]
   rw[e]at z;exact z
  |ref _=>simp[aV]at hy
  |ty _=>simp[aV]at hy
 |ref _=>simp[aV]at hx
 |ty _=>simp[aV]at hx
theorem aNV(I:Inv X pins σ H s)(n:Nat)(A:iw)(hl:pO X.K H a1 xs)(y:D)(vy:V)(v:bh)(hu0:A.units<kh)(hy:aV n y=ak)(ry:RD X.K H y vy)(rv:RelV vy v):SeqAt.RcAt A s (.ref a1) v ao:=by
 obtain⟨eO,vv1,pl,_⟩:=I.list hl;have p1:=pl.isList;cases ry with
 |non =>
  cases rv;exact SeqAt.RcAt.list_none p1 hu0
 |bl b2 =>
  cases rv;exact SeqAt.RcAt.list_bool b2 p1 hu0
 |int i2 =>
  obtain⟨t2,rfl⟩:=rv;exact SeqAt.RcAt.list_int i2 t2 p1 hu0
 |str z2 =>
  obtain⟨t2,rfl⟩:=rv;exact SeqAt.RcAt.list_str z2 t2 p1 hu0
 |@tup a2 xs2 pW h2 r2 =>
  cases rv;obtain⟨its2,vv2,p2,_⟩:=I.tuple h2;exact SeqAt.RcAt.list_tuple (show s.heap.IsList a1 eO.toArray from p1) (show s.heap.IsTuple a2 its2.toArray from p2) hu0
 |ref _=>cases n<;>simp[aV]at hy
 |ty _=>cases n<;>simp[aV]at hy
theorem aNW(I:Inv X pins σ H s)(n:Nat)(A:iw)(hl:pO X.K H a2 xs)(y:D)(vy:V)(v:bh)(hu0:A.units<kh)(hy:aV n y=ak)(ry:RD X.K H y vy)(rv:RelV vy v):SeqAt.RcAt A s v (.ref a2) ao:=by
 obtain⟨its2,vv2,pl,_⟩:=I.list hl;have p2:=pl.isList;cases ry with
 |non =>
  cases rv;exact SeqAt.RcAt.none_list p2 hu0
 |bl b1 =>
  cases rv;exact SeqAt.RcAt.bool_list b1 p2 hu0
 |int i1 =>
  obtain⟨t1,rfl⟩:=rv;exact SeqAt.RcAt.int_list i1 t1 p2 hu0
 |str z1 =>
  obtain⟨t1,rfl⟩:=rv;exact SeqAt.RcAt.str_list z1 t1 p2 hu0
 |@tup a1 xs1 ds1 h1 r1 =>
  cases rv;obtain⟨eO,vv1,p1,_⟩:=I.tuple h1;exact SeqAt.RcAt.tuple_list (show s.heap.IsTuple a1 eO.toArray from p1) (show s.heap.IsList a2 its2.toArray from p2) hu0
 |ref _=>cases n<;>simp[aV]at hy
 |ty _=>cases n<;>simp[aV]at hy
theorem aIL(I:Inv X pins σ H s)(n:Nat)(A:iw){ds1 pW:List D}(h1:pO X.K H a1 xs1)(h2:pO X.K H a2 xs2)(r1:bQ X.K H ds1 xs1)(r2:bQ X.K H pW xs2)
  (hu:A.units+(n+1)<kh)(hx:ds1.all (aV n)=ak)(hy:pW.all (aV n)=ak):SeqAt.RcAt A s (.ref a1) (.ref a2) (pG ds1 pW):=by
 have hu0:A.units<kh:=by omega
 obtain⟨eO,vv1,q1,_⟩:=I.list h1;obtain⟨its2,vv2,q2,_⟩:=I.list h2;have p1:=q1.isList;have p2:=q2.isList;by_cases hl:ds1.length=pW.length
 .have hsz:eO.toArray.size=its2.toArray.size:=by rw[dj,dj,←vv1.length,←vv2.length,←r1.length,←r2.length];exact hl
  have z:=SeqAt.RcAt.lists (e:=rQ ds1 pW) p1 p2 hsz hu0 (uM (n:=n) r1 r2 vv1 vv2 λx mx y my v w u t q1 q2 q3 q4 =>
      yH I n A.in1 x y v w u t (uN hu) (jq.mp hx x mx) (jq.mp hy y my) q1 q2 q3 q4)
  have e:(jy eO.toArray.size).all (rQ ds1 pW)=pG ds1 pW:=by rw[a9W hl,dj,←vv1.length,←r1.length]
  rw[e]at z;exact z
 .have hne:(eO.toArray.size !=its2.toArray.size)=ak:=by rw[dj,dj,←vv1.length,←vv2.length,←r1.length,←r2.length];simpa using hl
  have e:pG ds1 pW=ao:=adP (by simpa using hl);rw[e];exact SeqAt.RcAt.lists_lengths p1 p2 hne hu0
theorem aCH(I:Inv X pins σ H s)(n:Nat)(A:iw)(x y:D)(vx vy:V)(u v:bh)(hu:A.units+(n+1)<kh)(hx:aV (n+1) x=ak)(hy:aV (n+1) y=ak)(rx:RD X.K H x vx)(ry:RD X.K H y vy)(ru:RelV vx u)(rv:RelV vy v):SeqAt.RcNeAt A s u v (!eqP x y):=by
 have hu0:A.units<kh:=by omega
 cases rx with
 |non =>
  cases ru;cases ry with
  |non =>
   cases rv
   first|exact SeqAt.RcNeAt.none_none|(simp only[eqP];exact SeqAt.RcNeAt.none_none)
  |bl b2 =>
   cases rv
   first|exact SeqAt.RcNeAt.none_bool b2|(simp only[eqP];exact SeqAt.RcNeAt.none_bool b2)
  |int i2 =>
   obtain⟨t2,rfl⟩:=rv
   first|exact SeqAt.RcNeAt.none_int i2 t2|(simp only[eqP];exact SeqAt.RcNeAt.none_int i2 t2)
  |str z2 =>
   obtain⟨t2,rfl⟩:=rv
   first|exact SeqAt.RcNeAt.none_str z2 t2|(simp only[eqP];exact SeqAt.RcNeAt.none_str z2 t2)
  |@tup a2 xs2 pW h2 r2 =>
   cases rv;obtain⟨its2,vv2,p2,_⟩:=I.tuple h2
   first|exact SeqAt.RcNeAt.none_tuple (show s.heap.IsTuple a2 its2.toArray from p2) hu0|(simp only[eqP];exact SeqAt.RcNeAt.none_tuple (show s.heap.IsTuple a2 its2.toArray from p2) hu0)
  |ref _=>simp[aV]at hy
  |ty _=>simp[aV]at hy
 |bl b1 =>
  cases ru;cases ry with
  |non =>
   cases rv
   first|exact SeqAt.RcNeAt.bool_none b1|(simp only[eqP];exact SeqAt.RcNeAt.bool_none b1)
  |bl b2 =>
   cases rv
   first|exact SeqAt.RcNeAt.bool_bool b1 b2|(simp only[eqP];exact SeqAt.RcNeAt.bool_bool b1 b2)
  |int i2 =>
   obtain⟨t2,rfl⟩:=rv
   first|exact SeqAt.RcNeAt.bool_int b1 i2 t2|(simp only[eqP];exact SeqAt.RcNeAt.bool_int b1 i2 t2)
  |str z2 =>
   obtain⟨t2,rfl⟩:=rv
   first|exact SeqAt.RcNeAt.bool_str b1 z2 t2|(simp only[eqP];exact SeqAt.RcNeAt.bool_str b1 z2 t2)
  |@tup a2 xs2 pW h2 r2 =>
   cases rv;obtain⟨its2,vv2,p2,_⟩:=I.tuple h2
   first|exact SeqAt.RcNeAt.bool_tuple b1 (show s.heap.IsTuple a2 its2.toArray from p2) hu0|(simp only[eqP];exact SeqAt.RcNeAt.bool_tuple b1 (show s.heap.IsTuple a2 its2.toArray from p2) hu0)
  |ref _=>simp[aV]at hy
  |ty _=>simp[aV]at hy
 |int i1 =>
  obtain⟨t1,rfl⟩:=ru;cases ry with
  |non =>
   cases rv
   first|exact SeqAt.RcNeAt.int_none i1 t1|(simp only[eqP];exact SeqAt.RcNeAt.int_none i1 t1)
  |bl b2 =>
   cases rv
   first|exact SeqAt.RcNeAt.int_bool i1 t1 b2|(simp only[eqP];exact SeqAt.RcNeAt.int_bool i1 t1 b2)
  |int i2 =>
   obtain⟨t2,rfl⟩:=rv
   first|exact SeqAt.RcNeAt.int_int i1 t1 i2 t2|(simp only[eqP];exact SeqAt.RcNeAt.int_int i1 t1 i2 t2)
  |str z2 =>
   obtain⟨t2,rfl⟩:=rv
   first|exact SeqAt.RcNeAt.int_str i1 t1 z2 t2|(simp only[eqP];exact SeqAt.RcNeAt.int_str i1 t1 z2 t2)
  |@tup a2 xs2 pW h2 r2 =>
   cases rv;obtain⟨its2,vv2,p2,_⟩:=I.tuple h2
   first|exact SeqAt.RcNeAt.int_tuple i1 t1 (show s.heap.IsTuple a2 its2.toArray from p2) hu0|(simp only[eqP];exact SeqAt.RcNeAt.int_tuple i1 t1 (show s.heap.IsTuple a2 its2.toArray from p2) hu0)
  |ref _=>simp[aV]at hy
  |ty _=>simp[aV]at hy
 |str z1 =>
  obtain⟨t1,rfl⟩:=ru;cases ry with
  |non =>
   cases rv
   first|exact SeqAt.RcNeAt.str_none z1 t1|(simp only[eqP];exact SeqAt.RcNeAt.str_none z1 t1)
  |bl b2 =>
   cases rv
   first|exact SeqAt.RcNeAt.str_bool z1 t1 b2|(simp only[eqP];exact SeqAt.RcNeAt.str_bool z1 t1 b2)
  |int i2 =>
   obtain⟨t2,rfl⟩:=rv
   first|exact SeqAt.RcNeAt.str_int z1 t1 i2 t2|(simp only[eqP];exact SeqAt.RcNeAt.str_int z1 t1 i2 t2)
  |str z2 =>
   obtain⟨t2,rfl⟩:=rv
   first|exact SeqAt.RcNeAt.str_str z1 t1 z2 t2|(simp only[eqP];exact SeqAt.RcNeAt.str_str z1 t1 z2 t2)
  |@tup a2 xs2 pW h2 r2 =>
   cases rv;obtain⟨its2,vv2,p2,_⟩:=I.tuple h2
   first|exact SeqAt.RcNeAt.str_tuple z1 t1 (show s.heap.IsTuple a2 its2.toArray from p2) hu0|(simp only[eqP];exact SeqAt.RcNeAt.str_tuple z1 t1 (show s.heap.IsTuple a2 its2.toArray from p2) hu0)
  |ref _=>simp[aV]at hy
  |ty _=>simp[aV]at hy
 |@tup a1 xs1 ds1 h1 r1 =>
  cases ru;obtain⟨eO,vv1,p1,_⟩:=I.tuple h1;cases ry with
  |non =>
   cases rv
   first|exact SeqAt.RcNeAt.tuple_none (show s.heap.IsTuple a1 eO.toArray from p1) hu0|(simp only[eqP];exact SeqAt.RcNeAt.tuple_none (show s.heap.IsTuple a1 eO.toArray from p1) hu0)
  |bl b2 =>
   cases rv
   first|exact SeqAt.RcNeAt.tuple_bool b2 (show s.heap.IsTuple a1 eO.toArray from p1) hu0|(simp only[eqP];exact SeqAt.RcNeAt.tuple_bool b2 (show s.heap.IsTuple a1 eO.toArray from p1) hu0)
  |int i2 =>
   obtain⟨t2,rfl⟩:=rv
   first|exact SeqAt.RcNeAt.tuple_int i2 t2 (show s.heap.IsTuple a1 eO.toArray from p1) hu0|(simp only[eqP];exact SeqAt.RcNeAt.tuple_int i2 t2 (show s.heap.IsTuple a1 eO.toArray from p1) hu0)
  |str z2 =>
   obtain⟨t2,rfl⟩:=rv
   first|exact SeqAt.RcNeAt.tuple_str z2 t2 (show s.heap.IsTuple a1 eO.toArray from p1) hu0|(simp only[eqP];exact SeqAt.RcNeAt.tuple_str z2 t2 (show s.heap.IsTuple a1 eO.toArray from p1) hu0)
  |@tup a2 xs2 pW h2 r2 =>
   cases rv;obtain⟨its2,vv2,p2,_⟩:=I.tuple h2
   have z:=SeqAt.RcNeAt.tuples (e:=rQ ds1 pW) (show s.heap.IsTuple a1 eO.toArray from p1) (show s.heap.IsTuple a2 its2.toArray from p2) hu0 (uM (n:=n) r1 r2 vv1 vv2 λx mx y my v w u t q1 q2 q3 q4 =>
      yH I n A.in1 x y v w u t (uN hu) (jq.mp (by simpa[aV]using hx) x mx) (jq.mp (by simpa[aV]using hy) y my) q1 q2 q3 q4)
   have e:((jy (min eO.toArray.size its2.toArray.size)).all (rQ ds1 pW)&&eO.toArray.size==its2.toArray.size)=eqP (.tup ds1) (.tup pW):=by
    rw[eqP,jR,dj,dj,←vv1.length,←vv2.length,←r1.length,←r2.length]
   rw[e]at z;exact z
  |ref _=>simp[aV]at hy
  |ty _=>simp[aV]at hy
 |ref _=>simp[aV]at hx
 |ty _=>simp[aV]at hx
theorem aCI(I:Inv X pins σ H s)(n:Nat)(A:iw)(hl:pO X.K H a1 xs)(y:D)(vy:V)(v:bh)(hu0:A.units<kh)(hy:aV n y=ak)(ry:RD X.K H y vy)(rv:RelV vy v):SeqAt.RcNeAt A s (.ref a1) v ak:=by
 obtain⟨eO,vv1,pl,_⟩:=I.list hl;have p1:=pl.isList;cases ry with
 |non =>
  cases rv;exact SeqAt.RcNeAt.list_none p1 hu0
 |bl b2 =>
  cases rv;exact SeqAt.RcNeAt.list_bool b2 p1 hu0
 |int i2 =>
  obtain⟨t2,rfl⟩:=rv;exact SeqAt.RcNeAt.list_int i2 t2 p1 hu0
 |str z2 =>
  obtain⟨t2,rfl⟩:=rv;exact SeqAt.RcNeAt.list_str z2 t2 p1 hu0
 |@tup a2 xs2 pW h2 r2 =>
  cases rv;obtain⟨its2,vv2,p2,_⟩:=I.tuple h2;exact SeqAt.RcNeAt.list_tuple (show s.heap.IsList a1 eO.toArray from p1) (show s.heap.IsTuple a2 its2.toArray from p2) hu0
 |ref _=>cases n<;>simp[aV]at hy
 |ty _=>cases n<;>simp[aV]at hy
theorem aCJ(I:Inv X pins σ H s)(n:Nat)(A:iw)(hl:pO X.K H a2 xs)(y:D)(vy:V)(v:bh)(hu0:A.units<kh)(hy:aV n y=ak)(ry:RD X.K H y vy)(rv:RelV vy v):SeqAt.RcNeAt A s v (.ref a2) ak:=by
 obtain⟨its2,vv2,pl,_⟩:=I.list hl;have p2:=pl.isList;cases ry with
 |non =>
  cases rv;exact SeqAt.RcNeAt.none_list p2 hu0
 |bl b1 =>
  cases rv;exact SeqAt.RcNeAt.bool_list b1 p2 hu0
 |int i1 =>
  obtain⟨t1,rfl⟩:=rv;exact SeqAt.RcNeAt.int_list i1 t1 p2 hu0
 |str z1 =>
  obtain⟨t1,rfl⟩:=rv;exact SeqAt.RcNeAt.str_list z1 t1 p2 hu0
 |@tup a1 xs1 ds1 h1 r1 =>
  cases rv;obtain⟨eO,vv1,p1,_⟩:=I.tuple h1;exact SeqAt.RcNeAt.tuple_list (show s.heap.IsTuple a1 eO.toArray from p1) (show s.heap.IsList a2 its2.toArray from p2) hu0
 |ref _=>cases n<;>simp[aV]at hy
 |ty _=>cases n<;>simp[aV]at hy
theorem aCK(I:Inv X pins σ H s)(n:Nat)(A:iw){ds1 pW:List D}(h1:pO X.K H a1 xs1)(h2:pO X.K H a2 xs2)(r1:bQ X.K H ds1 xs1)(r2:bQ X.K H pW xs2)
  (hu:A.units+(n+1)<kh)(hx:ds1.all (aV n)=ak)(hy:pW.all (aV n)=ak):SeqAt.RcNeAt A s (.ref a1) (.ref a2) (!pG ds1 pW):=by
 have hu0:A.units<kh:=by omega
 obtain⟨eO,vv1,q1,_⟩:=I.list h1;obtain⟨its2,vv2,q2,_⟩:=I.list h2;have p1:=q1.isList;have p2:=q2.isList;by_cases hl:ds1.length=pW.length
 .have hsz:eO.toArray.size=its2.toArray.size:=by rw[dj,dj,←vv1.length,←vv2.length,←r1.length,←r2.length];exact hl
  have z:=SeqAt.RcNeAt.lists (e:=rQ ds1 pW) p1 p2 hsz hu0 (uM (n:=n) r1 r2 vv1 vv2 λx mx y my v w u t q1 q2 q3 q4 =>
      yH I n A.in1 x y v w u t (uN hu) (jq.mp hx x mx) (jq.mp hy y my) q1 q2 q3 q4)
  have e:(jy eO.toArray.size).all (rQ ds1 pW)=pG ds1 pW:=by rw[a9W hl,dj,←vv1.length,←r1.length]
  rw[e]at z;exact z
 .have hne:(eO.toArray.size !=its2.toArray.size)=ak:=by rw[dj,dj,←vv1.length,←vv2.length,←r1.length,←r2.length];simpa using hl
  have e:pG ds1 pW=ao:=adP (by simpa using hl);rw[e];exact SeqAt.RcNeAt.lists_lengths p1 p2 hne hu0
def eqG(G:Gp)(x y:D)(k:Bool->Prop):Prop:=match x,y with
 |.ref a,.ref b=>(match aM G a,aM G b with
  |some xs,aj ys=>xs.all (aV 20)=ak/\ys.all (aV 20)=ak/\k (pG xs ys)
  |_,_=>False)
 |.ref a,y=>(match aM G a with
  |some _=>aV 20 y=ak/\k ao
  |none=>False)
 |x,.ref b=>(match aM G b with
  |some _=>aV 20 x=ak/\k ao
  |none=>False)
 |x,y=>aV 20 x=ak/\aV 20 y=ak/\k (eqP x y)
noncomputable def uE:R3:=λx y G R=>eqG G x y λb=>R (.bl b) G
noncomputable def a3O:R3:=λx y G R=>eqG G x y λb=>R (.bl (!b)) G
theorem a1K{r3:R3}(h:∀(pins:List (bx×Obj))(s:cj)(σ:St)(H:Hp)(x y:D)(vx vy:V)(u v:bh)(G:Gp)(R:fL)(Q:VK),Inv X pins σ H s->RD X.K H x vx->RD X.K H y vy->RelV vx u->RelV vy v->HR X.K H G->r3 x y G R ->
   (∀w H' d G',Ts H H'->RD X.K H' d w->HR X.K H' G'->R d G'->Q w H')->cu (fj X.prog X.w) X.A (f u v) (EP X pins σ Q) X.xe s):lU X f r3 :=
 ⟨λvx vy H Q=>∃x y G R,RD X.K H x vx/\RD X.K H y vy/\HR X.K H G/\r3 x y G R/\∀w H' d G',Ts H H'->RD X.K H' d w->HR X.K H' G'->R d G'->Q w H',
  λpins s σ H vx vy u v Q I ru rv ⟨x,y,G,R,rx,ry,g,q,k⟩=>h pins s σ H x y vx vy u v G R Q I rx ry ru rv g q k,λH x y vx vy G R Q rx ry g q k=>⟨x,y,G,R,rx,ry,g,q,k⟩⟩
set_option tactic.hygienic true in
theorem aiR(hu:X.A.units+64<kh){neg:Bool}(hop:op=if neg then .NotEq else .Eq){x:D}{k:Bool->Prop}{Q:VK}(I:Inv X pins σ H s)(rx:RD X.K H x vx)(ry:RD X.K H y vy)(ru:RelV vx u)(rv:RelV vy v)(g:HR X.K H G)
  (h:eqG G x y k)(hk:∀b,k b->EP X pins σ Q (.bool (neg ^^ b)) s):cu (fj X.prog X.w) X.A (jg op u v) (EP X pins σ Q) X.xe s:=by
 have fin:∀{b:Bool},(if neg then SeqAt.RcNeAt X.A s u v (!b)else SeqAt.RcAt X.A s u v b)->k b->cu (fj X.prog X.w) X.A (jg op u v) (EP X pins σ Q) X.xe s:=λ{b} z kb=>by
  have e:=hk b kb;cases neg with
  |true =>
   subst hop;rw[Bool.true_xor]at e;exact z X.prog X.w X.xe _ e
  |false =>
   subst hop;rw[a2r]at e;exact z X.prog X.w X.xe _ e
 have hu1:X.A.units+(20+1)<kh:=by omega
 have hu2:X.A.units+(19+1)<kh:=by omega
 have hu0:X.A.units<kh:=by omega
 have plain:aV 20 x=ak->aV 20 y=ak->k (eqP x y)->cu (fj X.prog X.w) X.A (jg op u v) (EP X pins σ Q) X.xe s:=λhx hy kk=>fin (b:=eqP x y) (by
  cases neg with
  |true=>exact aCH I 19 X.A x y vx vy u v hu2 hx hy rx ry ru rv
  |false=>exact aNU I 19 X.A x y vx vy u v hu2 hx hy rx ry ru rv) kk
 have left:∀a xs,x=.ref a->aM G a=aj xs->aV 20 y=ak->k ao->cu (fj X.prog X.w) X.A (jg op u v) (EP X pins σ Q) X.xe s:=λa xs e1 e2 hy kk=>by
  subst e1;cases rx;cases ru;obtain⟨zs,hz,_⟩:=bM g e2;refine fin (b:=false) ?_ kk;cases neg with
  |true=>exact aCI I 20 X.A hz y vy v hu0 hy ry rv
  |false=>exact aNV I 20 X.A hz y vy v hu0 hy ry rv
 have right:∀a xs,y=.ref a->aM G a=aj xs->aV 20 x=ak->k ao->cu (fj X.prog X.w) X.A (jg op u v) (EP X pins σ Q) X.xe s:=λa xs e1 e2 hy kk=>by
  subst e1;cases ry;cases rv;obtain⟨zs,hz,_⟩:=bM g e2;refine fin (b:=false) ?_ kk;cases neg with
  |true=>exact aCJ I 20 X.A hz x vx u hu0 hy rx ru
  |false=>exact aNW I 20 X.A hz x vx u hu0 hy rx ru
 unfold eqG at h;split at h
 .rename_i a b;split at h
  .rename_i xs ys e1 e2;cases rx;cases ry;cases ru;cases rv;obtain⟨zs1,hz1,q1⟩:=bM g e1;obtain⟨zs2,hz2,q2⟩:=bM g e2;refine fin (b:=pG xs ys) ?_ h.2.2;cases neg with
   |true=>exact aCK I 20 X.A hz1 hz2 q1 q2 hu1 h.1 h.2.1
   |false=>exact aIL I 20 X.A hz1 hz2 q1 q2 hu1 h.1 h.2.1
  .exact h.elim
 .rename_i a _;split at h
  .rename_i xs e1;exact left a xs rfl e1 h.1 h.2
  .exact h.elim
 .rename_i b _;split at h
  .rename_i xs e1;exact right b xs rfl e1 h.1 h.2
  .exact h.elim
 .exact plain h.1 h.2.1 h.2.2
theorem aNX(hu:X.A.units+64<kh):lU X (jg .Eq) uE:=a1K λpins s σ H x y vx vy u v G R Q I rx ry ru rv g q k =>
 aiR (neg:=false) hu rfl I rx ry ru rv g q λb kb=>⟨.bl b,H,I,by rw[a2r];rfl,k _ H (.bl b) G (.refl H) (.bl b) g kb⟩
theorem aNY(hu:X.A.units+64<kh):lU X (jg .NotEq) a3O:=a1K λpins s σ H x y vx vy u v G R Q I rx ry ru rv g q k =>
 aiR (neg:=true) hu rfl I rx ry ru rv g q λb kb=>⟨.bl (!b),H,I,by rw[Bool.true_xor];rfl,k _ H (.bl (!b)) G (.refl H) (.bl (!b)) g kb⟩
end
end
section
open PySem.W PySem.Calls
open PySem.Builtin PySem.Builtin.ObjectAttr PySem.Builtin.Getset_descriptor
section
variable{prog:jt}{w:iy}{A:iw}{s:cj}{K:Fg}{x:bx}{o:Obj}
theorem a8R{tp:bh}(X:K.In s.heap)(hx:s.heap.get? x=aj o)(hc:o.cls=.ref C)(hm:mroIn K C (.type "object")=aj ak)
  (h:R (.ok (.ret (.ref C))) s):yu (fj prog w) A (.call (.builtin "getset_descriptor.__get__") ⟨[.builtin "object.__class__",.ref x,tp],[]⟩) R s:=by
 obtain⟨hh,g,dr,t,os⟩:=s;have L0:Looks (fj prog w) hh (typeOf (.ref x)) (.ref C):=hc ▸ (Looks.ld hx).andThen .now;have L1:=looks_mroIn (M:=model prog w) X hm;refine codeAny_call_builtin KF.slot_gs.plain KF.entry_gs (KF.slot_gs.check _ _ _ _ _ _ _ _ KF.type_class (KF.args_gs _ _ _) ?_);unfold Builtin.«getset_descriptor.__get__» descrGet;rw[dga_obj];refine au (dh ?_);unfold descrGetter descrCheckInstance descrNameAndClass isInstance;simp only[KF.owner_class]
 repeat lk
 refine⟨Code.quiet_builtin _ (by decide+kernel),xr KF.entry_class ?_⟩;unfold Builtin.«object.__class__» shownTypeOf
 repeat lk
 exact h
theorem alA(X:K.In s.heap)(hx:s.heap.get? x=aj o)(hc:o.cls=.ref C)
  (hga:findIn K (.ref C) "__getattribute__"=aj (aj (.builtin "BaseException.__getattribute__")))(hgn:findIn K (.ref C) "__getattr__"=aj aq)(ha:findIn K (.ref C) "__class__"=aj (aj (.builtin "object.__class__")))
  (hb:subIn K (.ref C) (.type "BaseException")=aj ak)(hm:mroIn K C (.type "object")=aj ak)(h:Q (aj (.ref C)) {s with toks:=s.toks+1}):cu (fj prog w) A (getAttr? (.ref x) "__class__") Q E s:=by
 obtain⟨hh,g,d,t,os⟩:=s;have L0:Looks (fj prog w) hh (typeOf (.ref x)) (.ref C):=hc ▸ (Looks.ld hx).andThen .now;have L1:=looks_findIn (M:=model prog w) X hga;have L2':=looks_findIn (M:=model prog w) X hgn;have L3:=looks_findIn (M:=model prog w) X ha;have L4:=looks_subIn (M:=model prog w) X hb;unfold getAttr? getAttrBy? getAttrBy;refine au (wpAny_mkText (au (a2e (qb (au (L0.at (au (L1.at ?_))))))));have hx2:(bh.builtin "BaseException.__getattribute__"==bh.builtin "object.__getattribute__")=ao:=by decide+kernel
 have f3:=PySem.F.attr_ValueError.ga.bind (.ref x);have hk:builtinKind "BaseException.__getattribute__"=aj .slot:=by decide+kernel
 have hsplit:splitId "BaseException.__getattribute__"=aj ("BaseException","__getattribute__"):=by decide+kernel
 have ha2:=PySem.F.args_bexc_ga (.ref x) (.str "__class__" t)
 repeat (first|with_reducible refine L0.at ?_|with_reducible refine L1.at ?_|with_reducible refine L2'.at ?_|with_reducible refine L3.at ?_|with_reducible refine L4.at ?_|wp_step)
 refine codeAny_call_builtin PySem.F.attr_ValueError.ga.plain PySem.F.entry_bexc_ga ?_;simp only[checkBuiltinCall,hk,hsplit];unfold isInstance;have f5:=PySem.F.typeOf_object_class;have f6:=PySem.F.slot_gs_get.lookup;have f7:=PySem.F.slot_gs_set.lookup
 repeat (any_goals (first|assumption|with_reducible refine L0.at ?_|with_reducible refine L1.at ?_|with_reducible refine L2'.at ?_|with_reducible refine L3.at ?_|with_reducible refine L4.at ?_|wp_step))
 refine a8R X hx hc hm ?_
 repeat (any_goals (first|assumption|wp_step))
end
end
variable{T:String}
section
variable{n:String}{s:cj}{H:Hp}{Q:VK}
section
variable{X:Cx}{x:Str}{p pos:Pos}{e:jf}{t:nH}{id T:String}{r3:List D->Gp->fL->Prop}
noncomputable def cD(X:Cx)(f:bh)(r3:List D->Gp->fL->Prop):Prop :=
 ∀(pins:List (bx×Obj))(s:cj)(σ:St)(H:Hp)(xs:List D)(vs:List V)(us:List bh)(G:Gp)(R:fL)(Q:VK),Inv X pins σ H s->bQ X.K H xs vs->Vals vs us->HR X.K H G->r3 xs G R ->
  (∀v H' d G',Ts H H'->RD X.K H' d v->HR X.K H' G'->R d G'->Q v H')->cu (fj X.prog X.w) X.A (call f us) (EP X pins σ Q) X.xe s
theorem cD.of(h:oJ X f r)(i:∀(H:Hp)(xs:List D)(vs:List V)(G:Gp)(R:fL)(Q:VK),bQ X.K H xs vs->HR X.K H G->r3 xs G R ->
  (∀v H' d G',Ts H H'->RD X.K H' d v->HR X.K H' G'->R d G'->Q v H')->r vs H λv H'=>KF X.K H'->Q v H'):cD X f r3:=λpins s σ H xs vs us G R Q I rx rv g q k =>
 cL (h pins s σ H vs us _ I rv (i H xs vs G R Q rx g q k)) λ_ _ ⟨v,H',I',r,q'⟩=>⟨v,H',I',r,q' (oM I')⟩
noncomputable def cU(r3:List D->Gp->fL->Prop)(t:nH):cB:=λρ G R=>t ρ G λxs G1=>r3 xs G1 R
theorem rR(hc:cD X (.builtin id) r3)(hg:Gl X x)(hm:X.mg x=aq)(hv:jr x=aj (.builtin id))(ha:PA3 X (e::es) t)(hn:x≠"__name__":=by decide)(hdb:(x==("__debug__":Str))=ao:=by decide)
  (he:je (e::es) X.env=(ao,eval e X.env)::je es X.env:=by rfl)(hpl:(yh pos (je es X.env)).any (·.1)=ao:=by rfl):cF X (.Call (.Name x p) (e::es) [] pos) (cU r3 t):=by
 intro pins s σ H Q I h _tk;obtain⟨ρ,G,R,sr,g,q,kk⟩:=h;refine yp (rJ I hg hm hv ?_ hn hdb)
 exact PyProof.Rows.callWith_builtin1 (cL (ha pos pins s σ H (λvs H1=>Ts H H1/\∃ds G1,bQ X.K H1 ds vs/\HR X.K H1 G1/\r3 ds G1 R) I ⟨ρ,G,_,sr,g,q,λvs H1 ds G1 t1 r1 g1 q1=>⟨t1,ds,G1,r1,g1,q1⟩⟩) λus s1 ⟨vs,H1,I1,r,t1,ds,G1,r1,g1,q1⟩ =>
  hc pins s1 σ H1 ds vs us G1 R Q I1 r1 r g1 q1 λv H' d G' t2=>kk v H' d G' (t1.trans t2)) he hpl
theorem a5U(hc:cD X (.type T) r3)(hg:Gl X x)(hm:X.mg x=aq)(hv:jr x=aj (.type T))(ha:PA3 X (e::es) t)(hn:x≠"__name__":=by decide)(hdb:(x==("__debug__":Str))=ao:=by decide)
  (he:je (e::es) X.env=(ao,eval e X.env)::je es X.env:=by rfl)(hpl:(yh pos (je es X.env)).any (·.1)=ao:=by rfl):cF X (.Call (.Name x p) (e::es) [] pos) (cU r3 t):=by
 intro pins s σ H Q I h _tk;obtain⟨ρ,G,R,sr,g,q,kk⟩:=h;refine yp (rJ I hg hm hv ?_ hn hdb)
 exact PyProof.Rows.callWith_type1 (cL (ha pos pins s σ H (λvs H1=>Ts H H1/\∃ds G1,bQ X.K H1 ds vs/\HR X.K H1 G1/\r3 ds G1 R) I ⟨ρ,G,_,sr,g,q,λvs H1 ds G1 t1 r1 g1 q1=>⟨t1,ds,G1,r1,g1,q1⟩⟩) λus s1 ⟨vs,H1,I1,r,t1,ds,G1,r1,g1,q1⟩ =>
  hc pins s1 σ H1 ds vs us G1 R Q I1 r1 r g1 q1 λv H' d G' t2=>kk v H' d G' (t1.trans t2)) he hpl
noncomputable def m7:List D->Gp->fL->Prop:=λxs G R=>match xs with
 |[.str z]=>z.length<=dg/\R (.int z.length) G
 |[.tup ds]=>R (.int ds.length) G
 |[.ref q]=>(match aM G q with
  |some ds=>R (.int ds.length) G
  |none=>False)
 |_=>False
set_option tactic.hygienic true in
theorem aIM:cD X (.builtin "len") m7:=cD.of (ab7.or ab8) λH xs vs G R Q rx g q k=>by
 cases rx with
 |nil=>exact False.elim q
 |cons r rr =>
  cases rr with
  |cons _ _=>cases r<;>exact False.elim q
  |nil =>
   cases r with
   |str z=>exact .inr ⟨z,rfl,q.1,λ_=>k _ H _ G (.refl H) (.int _) g q.2⟩
   |@tup a xs ds ha ra=>exact .inl ⟨a,xs,rfl,.inr ha,λ_=>by rw[←ra.length];exact k _ H _ G (.refl H) (.int _) g q⟩
   |ref a =>
    have q':(match aM G a with
     |some ds=>R (.int ds.length) G
     |none=>False):=q
    split at q'
    .rename_i ds e1;obtain⟨xs,h1,r1⟩:=bM g e1;exact .inl ⟨a,xs,rfl,.inl h1,λ_=>by rw[←r1.length];exact k _ H _ G (.refl H) (.int _) g q'⟩
    .exact q'.elim
   |_=>exact False.elim q
noncomputable def a9X:List D->Gp->fL->Prop:=λxs G R=>match xs with
 |[.int i]=>R (.int (if i<0 then -i else i)) G
 |_=>False
theorem aIN:cD X (.builtin "abs") a9X:=cD.of anI λH xs vs G R Q rx g q k=>by
 cases rx with
 |nil=>exact False.elim q
 |cons r rr =>
  cases rr with
  |cons _ _=>cases r<;>exact False.elim q
  |nil =>
   cases r with
   |int i=>exact⟨i,rfl,λ_=>k _ H _ G (.refl H) (.int _) g q⟩
   |_=>exact False.elim q
noncomputable def aiS:List D->Gp->fL->Prop:=λxs G R=>match xs with
 |[.int i]=>R (.int i) G
 |[.bl b]=>R (.int (if b then 1 else 0)) G
 |_=>False
theorem aIO:cD X (.type "int") aiS:=cD.of akR λH xs vs G R Q rx g q k=>by
 cases rx with
 |nil=>exact False.elim q
 |cons r rr =>
  cases rr with
  |cons _ _=>cases r<;>exact False.elim q
  |nil =>
   cases r with
   |int i=>exact .inl ⟨i,rfl,λ_=>k _ H _ G (.refl H) (.int _) g q⟩
   |bl b=>exact .inr ⟨b,rfl,λ_=>k _ H _ G (.refl H) (.int _) g q⟩
   |_=>exact False.elim q
noncomputable def a5V:List D->Gp->fL->Prop:=λxs G R=>match xs with
 |[.tup ds]=>∀l,G l=aq->R (.ref l) (aL G l (.lst ds))
 |[.ref q]=>(match aM G q with
  |some ds=>∀l,G l=aq->R (.ref l) (aL G l (.lst ds))
  |none=>False)
 |_=>False
set_option tactic.hygienic true in
theorem aCL:cD X (.type "list") a5V:=cD.of ab9 λH xs vs G R Q rx g q k=>by
 cases rx with
 |nil=>exact False.elim q
 |cons r rr =>
  cases rr with
  |cons _ _=>cases r<;>exact False.elim q
  |nil =>
   cases r with
   |@tup a xs ds ha ra =>
    refine⟨a,xs,rfl,.inr ha,λl hl kf=>?_⟩;have sn:Same H (upd H l (.lst xs)):=bB hl;exact k _ _ _ _ (.same sn) (.ref l) (g.put (u:=.lst ds) hl ⟨_,aF,ra.mono (.same sn)⟩) (q l (gP g hl kf))
   |ref a =>
    have q':(match aM G a with
     |some ds=>∀l,G l=aq->R (.ref l) (aL G l (.lst ds))
     |none=>False):=q
    split at q'
    .rename_i ds e1;obtain⟨xs,h1,r1⟩:=bM g e1;refine⟨a,xs,rfl,.inl h1,λl hl kf=>?_⟩;have sn:Same H (upd H l (.lst xs)):=bB hl;exact k _ _ _ _ (.same sn) (.ref l) (g.put (u:=.lst ds) hl ⟨_,aF,r1.mono (.same sn)⟩) (q' l (gP g hl kf))
    .exact q'.elim
   |_=>exact False.elim q
noncomputable def tyD(G:Gp):D->Option String
 |.non=>aj "NoneType"
 |.bl _=>aj "bool"
 |.int _=>aj "int"
 |.str _=>aj "str"
 |.tup _=>aj "tuple"
 |.ref q=>(match G q with
  |some (.lst _)=>aj "list"
  |some (.rol _)=>aj "list"
  |some (.lF _ _)=>aj "dict"
  |_=>aq)
 |.ty _=>aq
noncomputable def exD(G:Gp):D->Option bx
 |.ref q=>(match G q with
  |some (.exn C)=>aj C
  |_=>aq)
 |_=>aq
noncomputable def subB(T n:String):Bool:=T==n||(T=="bool"&&n=="int")
noncomputable def aIP:List String:=["NoneType","bool","int","str","list","tuple","dict"]
noncomputable def fM:List String:=["int","bool","str","list","tuple","dict","ValueError"]
theorem aCN:∀T∈aIP,∀n∈fM,iu [] (.type T) (.type n)=aj (subB T n):=by decide+kernel
theorem mK(K:Fg)(h1:T∈aIP)(h2:n∈fM):iu K (.type T) (.type n)=aj (subB T n):=aCN T h1 n h2
structure ExC(K:Fg)(C:bx):Prop where
 ga:qg K (.ref C) "__getattribute__"=aj (aj (.builtin "BaseException.__getattribute__"))
 gn:qg K (.ref C) "__getattr__"=aj aq
 cl:qg K (.ref C) "__class__"=aj (aj (.builtin "object.__class__"))
 be:uf K (.ref C) (.type "BaseException")=aj ak
 ob:PySem.W.mroIn K C (.type "object")=aj ak
 cs:(vf K C).isSome=ak
set_option tactic.hygienic true in
theorem aoF{K:Fg}(c:ExC K C):PySem.W.KitX K (.ref a) (.ref C) (xO C a) where
 ty:=λM h X ⟨o,vs,h1,h2,_⟩=>h2 ▸ (uq.ld h1).andThen .now
 it:=λM h X _=>by
  intro A' Q' E' s' k q;cases eK:vf K C with
  |none=>have:=c.cs;rw[eK]at this;cases this
  |some cd =>
   unfold vf at eK;split at eK
   .rename_i ho;unfold isType loadHead;exact au (wpAny_loadPart (k _ _ (X _ _ ho)) (dh q))
   .cases eK
 ne:=λh tp dd its n sl X htp=>by
  refine Bool.eq_false_iff.mpr λq=>?_;have e:C=tp:=Value.ref.inj (beq_iff_eq.mp q);subst e;cases eK:vf K C with
  |none=>have:=c.cs;rw[eK]at this;cases this
  |some cd =>
   unfold vf at eK;split at eK
   .rename_i ho;have z:=(X _ _ ho).symm.trans htp;cases z
   .cases eK
 ca:=λX ⟨o,vs,h1,h2,_⟩ k=>alA X h1 h2 c.ga c.gn c.cl c.be c.ob k
noncomputable def aD(K:Fg):List D->Gp->fL->Prop:=λxs G R=>match xs with
 |[x,.ty n]=>(match tyD G x with
  |some T=>n∈fM/\R (.bl (subB T n)) G
  |none=>(match exD G x with
   |some C=>∃b,ExC K C/\iu K (.ref C) (.type n)=aj b/\R (.bl b) G
   |none=>False))
 |[x,.ref C']=>(match exD G x with
  |some C=>∃b,ExC K C/\iu K (.ref C) (.ref C')=aj b/\R (.bl b) G
  |none=>False)
 |_=>False
variable{x:D}
set_option tactic.hygienic true in
theorem aoG(h:exD G x=aj C):∃a,x=.ref a/\G a=aj (.exn C):=by
 cases x with
 |ref q =>
  refine⟨q,rfl,?_⟩
  have h':(match G q with
   |some (.exn C)=>aj C
   |_=>aq)=aj C:=h
  split at h'
  .rename_i e1;cases h';exact e1
  .cases h'
 |_=>cases h
theorem lA{σ:St}{a C:bx}{c:bh}{b:Bool}{G:Gp}{R:fL}(I:Inv X pins σ H s)(g:HR X.K H G)(e:G a=aj (.exn C))(hc:ExC X.K C)(hk:iu X.K (.ref C) c=aj b)(q:R (.bl b) G)
  (k:∀v H' d G',Ts H H'->RD X.K H' d v->HR X.K H' G'->R d G'->Q v H'):cu (fj X.prog X.w) X.A (call (.builtin "isinstance") [.ref a,c]) (EP X pins σ Q) X.xe s:=by
 obtain⟨o0,vs0,z,_⟩:=g a _ e;obtain⟨_,z1,_,_⟩:=I.hok a _ z;exact yd (aoF hc) I.kIn z1 hk (λz=>nomatch z) λtk=>⟨.bl b,H,I.tok tk,rfl,k _ H _ G (.refl H) (.bl b) g q⟩
set_option tactic.hygienic true in
theorem aCO{σ:St}{vx:V}{u:bh}{G:Gp}{R:fL}(I:Inv X pins σ H s)(rx:RD X.K H x vx)(ru:RelV vx u)(g:HR X.K H G)(e:tyD G x=aj T)(hn:n∈fM)(q:R (.bl (subB T n)) G)
  (k:∀v H' d G',Ts H H'->RD X.K H' d v->HR X.K H' G'->R d G'->Q v H'):cu (fj X.prog X.w) X.A (call (.builtin "isinstance") [u,.type n]) (EP X pins σ Q) X.xe s:=by
 have fin:∀tk,EP X pins σ Q (.bool (subB T n)) {s with toks:=tk}:=λtk=>⟨.bl _,H,I.tok tk,rfl,k _ H _ G (.refl H) (.bl _) g q⟩;cases rx with
 |non=>cases ru;cases e;exact yd PySem.W.kitx_none I.kIn True.intro (mK _ (by decide) hn) (λz=>nomatch z) fin
 |bl b=>cases ru;cases e;exact yd PySem.W.kitx_bool I.kIn True.intro (mK _ (by decide) hn) (λz=>nomatch z) fin
 |int i=>obtain⟨t,rfl⟩:=ru;cases e;exact yd PySem.W.kitx_int I.kIn True.intro (mK _ (by decide) hn) (λz=>nomatch z) fin
 |str i=>obtain⟨t,rfl⟩:=ru;cases e;exact yd PySem.W.kitx_str I.kIn True.intro (mK _ (by decide) hn) (λz=>nomatch z) fin
 |ty n=>cases e
 |@tup a xs ds ha ra =>
  cases ru;cases e;obtain⟨its,_,p,_⟩:=I.tuple ha;obtain⟨o,h1,h2,_⟩:=p;exact yd PySem.W.kitx_tuple I.kIn ⟨o,h1,h2⟩ (mK _ (by decide) hn) (λz=>nomatch z) fin
 |ref a =>
  cases ru
  have e':(match G a with
   |some (.lst _)=>aj "list"
   |some (.rol _)=>aj "list"
   |some (.lF _ _)=>aj "dict"
   |_=>aq)=aj T:=e
  split at e'
  .rename_i ds e1;cases e';obtain⟨xs,h1,_⟩:=bM g (show aM G a=aj ds by unfold aM;rw[e1]);obtain⟨its,_,p,_⟩:=I.list h1;obtain⟨o,n',h1,h2,_⟩:=p;exact yd PySem.W.kitx_list I.kIn ⟨o,h1,h2⟩ (mK _ (by decide) hn) (λz=>nomatch z) fin
  .rename_i ds e1;cases e';obtain⟨xs,h1,_⟩:=bM g (show aM G a=aj ds by unfold aM;rw[e1]);obtain⟨its,_,p,_⟩:=I.list h1;obtain⟨o,n',h1,h2,_⟩:=p;exact yd PySem.W.kitx_list I.kIn ⟨o,h1,h2⟩ (mK _ (by decide) hn) (λz=>nomatch z) fin
  .rename_i kvs e1;cases e';rcases g a _ e1 with⟨_,xs,h1,_⟩|⟨_,xs,h1,_⟩
   .obtain⟨_,_,vs,_,o,es,ep,h1,h2,_⟩:=I.hok a _ h1;exact yd PySem.W.kitx_dict I.kIn ⟨o,h1,h2.1⟩ (mK _ (by decide) hn) (λz=>nomatch z) fin
   .obtain⟨_,_,xs,_,o,es,ep,h1,h2,_⟩:=I.hok a _ h1;exact yd PySem.W.kitx_dict I.kIn ⟨o,h1,h2.1⟩ (mK _ (by decide) hn) (λz=>nomatch z) fin
  .cases e'
set_option tactic.hygienic true in
theorem abG:cD X (.builtin "isinstance") (aD X.K):=by
 intro pins s σ H xs vs us G R Q I rx rv g q k;cases rx with
 |nil=>exact False.elim q
 |@cons x v ds ws r1 rr =>
  cases rr with
  |nil=>cases r1<;>exact False.elim q
  |@cons y v2 pW ws2 r2 rr2 =>
   cases rr2 with
   |cons _ _=>cases r2<;>exact False.elim q
   |nil =>
    obtain⟨u1,u2,rfl,ru1,ru2⟩:=vals2 rv;cases r2 with
    |ty n =>
     cases ru2
     have q':(match tyD G x with
      |some T=>n∈fM/\R (.bl (subB T n)) G
      |none=>(match exD G x with
       |some C=>∃b,ExC X.K C/\iu X.K (.ref C) (.type n)=aj b/\R (.bl b) G
       |none=>False)):=q
     split at q'
     .rename_i T eT;exact aCO I r1 ru1 g eT q'.1 q'.2 k
     .split at q'
      .rename_i C eC;obtain⟨a,rfl,ea⟩:=aoG eC;obtain⟨b,hc,hk,q'⟩:=q';cases r1;cases ru1;exact lA I g ea hc hk q' k
      .exact q'.elim
    |ref C' =>
     cases ru2
     have q':(match exD G x with
      |some C=>∃b,ExC X.K C/\iu X.K (.ref C) (.ref C')=aj b/\R (.bl b) G
      |none=>False):=q
     split at q'
     .rename_i C eC;obtain⟨a,rfl,ea⟩:=aoG eC;obtain⟨b,hc,hk,q'⟩:=q';cases r1;cases ru1;exact lA I g ea hc hk q' k
     .exact q'.elim
    |_=>exact False.elim q
end
end
variable{id:String}
section
theorem a5W{K:Fg}{x:D}(hx:scD x=ak)(rx:RD K H x vx):∀{ys:List D}{vs:List V},bQ K H ys vs->ys.all scD=ak->vs.any (λy=>eqV y vx)=ys.any (λy=>eqP y x)
 |_,_,.nil,_=>rfl
 |_,_,.cons h r,hs=>by
  rw[wk,bw]at hs;rw[a0v,a0v,a5W hx rx r hs.2];congr 1;obtain⟨h1,_⟩:=hs;cases rx<;>cases h<;>first|(simp[eqV,eqP];done)|cases hx|cases h1
variable{x:D}
theorem zN{K:Fg}(hx:scD x=ak)(rx:RD K H x vx):tK vx=ak:=by cases rx<;>first|rfl|cases hx
theorem uO{K:Fg}:∀{ys:List D}{vs:List V},bQ K H ys vs->ys.all scD=ak->vs.all tK=ak
 |_,_,.nil,_=>rfl
 |_,_,.cons h r,hs=>by
  rw[wk,bw]at hs;rw[wk,zN hs.1 h,uO r hs.2];rfl
def inG(G:Gp)(x y:D)(k:Bool->Prop):Prop:=match x,y with
 |.str i,.str j=>k (!(Builtin.Str.occurrences j i 0 j.length 1).isEmpty)
 |x,.tup ys=>scD x=ak/\ys.all scD=ak/\k (ys.any λy=>eqP y x)
 |x,.ref p=>(match aM G p with
  |some ys=>scD x=ak/\ys.all scD=ak/\k (ys.any λy=>eqP y x)
  |none=>False)
 |_,_=>False
noncomputable def aIQ:R3:=λx y G R=>inG G x y λb=>R (.bl b) G
noncomputable def aiT:R3:=λx y G R=>inG G x y λb=>R (.bl (!b)) G
section
variable{X:Cx}
set_option tactic.hygienic true in
theorem aO0(hu:X.A.units+64<kh):lU X (jg .In) aIQ:=by
 refine⟨_,akO.or akW,λH x y vx vy G R Q rx ry g h k=>?_⟩;have h':inG G x y λb=>R (.bl b) G:=h;unfold inG at h';split at h'
 .cases rx;cases ry;exact .inl ⟨_,_,rfl,rfl,k _ H _ G (.refl H) (.bl _) g h'⟩
 .cases ry with
  |@tup a xs ds ha ra =>
   refine .inr ⟨a,xs,rfl,.inr ha,zN h'.1 rx,uO ra h'.2.1,?_⟩;have e:inV vx xs=_:=a5W h'.1 rx ra h'.2.1;simp only[qe,if_false];rw[e];exact k _ H _ G (.refl H) (.bl _) g h'.2.2
 .cases ry;split at h'
  .rename_i ys e1;obtain⟨xs,hq,ra⟩:=bM g e1;refine .inr ⟨_,xs,rfl,.inl hq,zN h'.1 rx,uO ra h'.2.1,?_⟩;have e:inV vx xs=_:=a5W h'.1 rx ra h'.2.1;simp only[qe,if_false];rw[e];exact k _ H _ G (.refl H) (.bl _) g h'.2.2
  .exact h'.elim
 .exact h'.elim
set_option tactic.hygienic true in
theorem avB(hu:X.A.units+64<kh):lU X (jg .NotIn) aiT:=by
 refine⟨_,ab2.or ab6,λH x y vx vy G R Q rx ry g h k=>?_⟩;have h':inG G x y λb=>R (.bl (!b)) G:=h;unfold inG at h';split at h'
 .cases rx;cases ry;exact .inl ⟨_,_,rfl,rfl,k _ H _ G (.refl H) (.bl _) g h'⟩
 .cases ry with
  |@tup a xs ds ha ra =>
   refine .inr ⟨a,xs,rfl,.inr ha,zN h'.1 rx,uO ra h'.2.1,?_⟩;have e:inV vx xs=_:=a5W h'.1 rx ra h'.2.1;simp only[if_true];rw[e];exact k _ H _ G (.refl H) (.bl _) g h'.2.2
 .cases ry;split at h'
  .rename_i ys e1;obtain⟨xs,hq,ra⟩:=bM g e1;refine .inr ⟨_,xs,rfl,.inl hq,zN h'.1 rx,uO ra h'.2.1,?_⟩;have e:inV vx xs=_:=a5W h'.1 rx ra h'.2.1;simp only[if_true];rw[e];exact k _ H _ G (.refl H) (.bl _) g h'.2.2
  .exact h'.elim
 .exact h'.elim
def avC(x:D)(lo hi:Option Int)(G:Gp)(R:fL):Prop:=match x with
 |.tup xs=>¬ (HT.jP xs.length 0 lo=0/\HT.jP xs.length xs.length hi=xs.length)/\R (.tup (cutD xs lo hi)) G
 |.str z=>z.length<=dg/\R (.str (Txt.slice z lo hi)) G
 |.ref p=>(match aM G p with
  |some xs=>∀q,G q=aq->R (.ref q) (aL G q (.lst (cutD xs lo hi)))
  |none=>False)
 |_=>False
theorem aCQ:SlR X (λx lo hi H Q=>∃z,x=.str z/\z.length<=dg/\Q (.str (Txt.slice z lo hi)) H):=by
 intro pins s σ H x v vl vu lo hi sl Q I rx hs pl pu h;obtain⟨z,rfl,hz,q⟩:=h;obtain⟨t,rfl⟩:=rx;refine⟨"str",_,F.slot_str_getitem.lookup,typeIs_str _ _ _,?_⟩;have fin:∀t' k,EP X pins σ Q (.str (Txt.slice z lo hi) t') {s with toks:=k}:=λt' k=>⟨.str _,H,I.tok k,⟨t',rfl⟩,q⟩;cases pl with
 |none =>
  cases pu with
  |none=>exact a0u (l:=none) (u:=none) (st:=none) hs rfl (post_val_or_str ⟨qz (Txt.slice_le z _ _) hz,fin⟩)
  |int j uj=>exact a0u (l:=none) (u:=some (j,uj)) (st:=none) hs rfl (post_val_or_str ⟨qz (Txt.slice_le z _ _) hz,fin⟩)
 |int i ui =>
  cases pu with
  |none=>exact a0u (l:=some (i,ui)) (u:=none) (st:=none) hs rfl (post_val_or_str ⟨qz (Txt.slice_le z _ _) hz,fin⟩)
  |int j uj=>exact a0u (l:=some (i,ui)) (u:=some (j,uj)) (st:=none) hs rfl (post_val_or_str ⟨qz (Txt.slice_le z _ _) hz,fin⟩)
theorem aoH{K:Fg}(r:bQ K H ds xs)(lo hi:Option Int):bQ K H (cutD ds lo hi) (a8M xs lo hi):=by
 unfold cutD a8M;rw[r.length];exact(r.drop _).take _
noncomputable def wJ(te:cB)(tl th:TO3):cB:=λρ G R=>te ρ G λx G1=>tl ρ G1 λlo G2=>th ρ G2 λhi G3=>avC x lo hi G3 R
set_option tactic.hygienic true in
theorem avD{e:jf}{te:cB}{lo hi:Option jf}{tl th:TO3}{p2:Pos}(he:cF X e te)(hl:PO3 X lo tl)(hu:PO3 X hi th):cF X (.Subscript e (.Slice lo hi aq p2) pos) (wJ te tl th):=by
 refine PE.imp (PE.kf (anV (auQ.or (aBO.or aCQ)) he hl hu)) λσ H Q h=>?_;obtain⟨ρ,G,R,s,g,q,k⟩:=h;refine⟨ρ,G,_,s,g,q,λvx H1 x G1 t1 rx g1 q1=>?_⟩;refine⟨ρ,G1,_,s.mono t1,g1,q1,λl H2 G2 t2 g2 q2=>?_⟩;refine⟨ρ,G2,_,s.mono (t1.trans t2),g2,q2,λu H3 G3 t3 g3 q3=>?_⟩;have rx3:=rx.mono (t2.trans t3);have tt:=(t1.trans t2).trans t3;cases rx3 with
 |@tup a xs ds ha ra =>
  refine .inr (.inl ⟨a,xs,rfl,ha,by rw[←ra.length];exact q3.1,λp hp _=>?_⟩);have sn:Same H3 (upd H3 p (.tup (a8M xs l u))):=bB hp;exact k _ _ _ G3 (tt.trans (.same sn)) (.tup (oH.of aF) ((aoH ra l u).mono (.same sn)) (adD aF)) (g3.same sn) q3.2
 |str z=>exact .inr (.inr ⟨z,rfl,q3.1,λ_=>k _ H3 _ G3 tt (.str _) g3 q3.2⟩)
 |ref p =>
  have q3':(match aM G3 p with
   |some xs=>∀q,G3 q=aq->R (.ref q) (aL G3 q (.lst (cutD xs l u)))
   |none=>False):=q3
  split at q3'
  .rename_i ds e1;obtain⟨xs,hq,ra⟩:=bM g3 e1;refine .inl ⟨p,xs,rfl,hq,λb hb kf=>?_⟩;have sn:Same H3 (upd H3 b (.lst (a8M xs l u))):=bB hb;exact k _ _ _ _ (tt.trans (.same sn)) (.ref b) (g3.put (u:=.lst (cutD ds l u)) hb ⟨_,aF,(aoH ra l u).mono (.same sn)⟩) (q3' b (gP g3 hb kf))
  .exact q3'.elim
 |_=>exact False.elim q3
noncomputable def abH(T:String)(G:Gp):D->Prop
 |.str _=>T="str"
 |.ref p=>T="list"/\(aM G p).isSome=ak
 |_=>False
theorem aoI{K:Fg}(g:HR K H G)(r:RD K H x v)(h:abH T G x):tyV K T v H:=by
 cases r with
 |str z=>exact h
 |ref p =>
  obtain⟨rfl,h⟩:=h;obtain⟨ds,e⟩:=a0q.mp h;obtain⟨xs,hq,_⟩:=bM g e;exact .inl ⟨rfl,xs,hq⟩
 |_=>exact False.elim h
abbrev RM3:=D->List D->Gp->fL->Prop
noncomputable def a5X(X:Cx)(id:String)(r3:RM3):Prop :=
 ∀(pins:List (bx×Obj))(s:cj)(σ:St)(H:Hp)(x:D)(xs:List D)(vx:V)(vs:List V)(u:bh)(us:List bh)(G:Gp)(R:fL)(Q:VK),Inv X pins σ H s->RD X.K H x vx->bQ X.K H xs vs->RelV vx u->Vals vs us->HR X.K H G->r3 x xs G R ->
  (∀v H' d G',Ts H H'->RD X.K H' d v->HR X.K H' G'->R d G'->Q v H')->cu (fj X.prog X.w) X.A (call (.builtin id) (u::us)) (EP X pins σ Q) X.xe s
variable{r3:RM3}
theorem a5X.of(h:MtR X id r)(i:∀(H:Hp)(x:D)(xs:List D)(vx:V)(vs:List V)(G:Gp)(R:fL)(Q:VK),RD X.K H x vx->bQ X.K H xs vs->HR X.K H G->r3 x xs G R ->
  (∀v H' d G',Ts H H'->RD X.K H' d v->HR X.K H' G'->R d G'->Q v H')->r vx vs H λv H'=>KF X.K H'->Q v H'):a5X X id r3:=λpins s σ H x xs vx vs u us G R Q I rx rs ru rv g q k =>
 cL (h pins s σ H vx vs u us _ I ru rv (i H x xs vx vs G R Q rx rs g q k)) λ_ _ ⟨v,H',I',r,q'⟩=>⟨v,H',I',r,q' (oM I')⟩
noncomputable def tM3(T:String)(r:RM3)(to:cB)(t:nH):cB:=λρ G R=>to ρ G λx G1=>abH T G1 x/\t ρ G1 λxs G2=>r x xs G2 R
noncomputable def aoJ(T:String)(r:RM3)(to:cB):cB:=λρ G R=>to ρ G λx G1=>abH T G1 x/\r x [] G1 R
theorem aCR{t:nH}{apos cpos:Pos}(pa:PlainAttrs T)(slot:Slot T name id)(hty:typeOf (.builtin id)=pure (.type "method_descriptor"))(hm:a5X X id r3)(ho:cF X o to)(ha:PA3 X (e::es) t)
  (hbase:zx o name X.env (eval o X.env)=eval o X.env:=by rfl)
  (hfew:((yh cpos (je (e::es) X.env)).all (λx=>!x.1)&&(backToKw cpos (keywordEach [] X.env)).all (λx=>x.1.isSome)
   &&decide ((e::es).length+([]:List Keyword).length+(if([]:List Keyword).isEmpty then 0 else 1)<30))=ak:=by rfl)
  (hline:(apos.endLine==cpos.line)=ak:=by rfl)(hs:je (e::es) X.env=(ao,eval e X.env)::je es X.env:=by rfl)(hplain:(yh cpos (je es X.env)).any (·.1)=ao:=by rfl) :
  cF X (.Call (.Attribute o name apos) (e::es) [] cpos) (tM3 T r3 to t):=by
 intro pins s σ H Q I h _tk;obtain⟨ρ,G,R,sr,g,q,kk⟩:=h;refine wpAny_Call_method_late hbase hfew hline rfl (cL (ho pins s σ H (λvx H1=>Ts H H1/\∃x G1,RD X.K H1 x vx/\HR X.K H1 G1/\abH T G1 x/\t ρ G1 λxs G2=>r3 x xs G2 R) I ⟨ρ,G,_,sr,g,q,λv H1 x G1 t1 r1 g1 q1=>⟨t1,x,G1,r1,g1,q1⟩⟩) ?_);rintro v s1 ⟨vx,H1,I1,r1,t1,x,G1,rx,g1,ty,q1⟩;obtain⟨h1,h2⟩:=anY I1 r1 (aoI g1 rx ty);refine⟨T,id,pa,slot,hty,h1,h2,?_⟩;have hA:=ha cpos pins s1 σ H1 (λvs H2=>Ts H1 H2/\∃xs G2,bQ X.K H2 xs vs/\HR X.K H2 G2/\r3 x xs G2 R) I1 ⟨ρ,G1,_,sr.mono t1,g1,q1,λvs H2 xs G2 t2 r2 g2 q2=>⟨t2,xs,G2,r2,g2,q2⟩⟩;rw[hs]at hA ⊢;refine Calls.callWith_builtin (by show(ao||(yh cpos (je es X.env)).any (·.1))=ao;rw[hplain]<;>rfl) (Calls.evalArgs_plain ?_);exact cL hA (by rintro us s2 ⟨vs,H2,I2,r2,t2,xs,G2,rs,g2,q2⟩;exact hm pins s2 σ H2 x xs vx vs v us G2 R Q I2 (rx.mono t2) rs r1 r2 g2 q2 λv H' d G' t3=>kk v H' d G' ((t1.trans t2).trans t3))
theorem aoK{apos cpos:Pos}(pa:PlainAttrs T)(slot:Slot T name id)(hty:typeOf (.builtin id)=pure (.type "method_descriptor"))(hm:a5X X id r3)(ho:cF X o to)
  (hbase:zx o name X.env (eval o X.env)=eval o X.env:=by rfl)(hline:(apos.endLine==cpos.line)=ak:=by rfl):cF X (.Call (.Attribute o name apos) [] [] cpos) (aoJ T r3 to):=by
 intro pins s σ H Q I h _tk;obtain⟨ρ,G,R,sr,g,q,kk⟩:=h;refine wpAny_Call_method0_late hbase hline (cL (ho pins s σ H (λvx H1=>Ts H H1/\∃x G1,RD X.K H1 x vx/\HR X.K H1 G1/\abH T G1 x/\r3 x [] G1 R) I ⟨ρ,G,_,sr,g,q,λv H1 x G1 t1 r1 g1 q1=>⟨t1,x,G1,r1,g1,q1⟩⟩) ?_);rintro v s1 ⟨vx,H1,I1,r1,t1,x,G1,rx,g1,ty,q1⟩;obtain⟨h1,h2⟩:=anY I1 r1 (aoI g1 rx ty);exact⟨T,id,pa,slot,hty,h1,h2,Calls.callWith_builtin rfl (PySem.evalArgs_none (hm pins s1 σ H1 x [] vx [] v [] G1 R Q I1 rx .nil r1 .nil g1 q1 λv H' d G' t3=>kk v H' d G' (t1.trans t3)))⟩
noncomputable def lG:RM3:=λx xs G R=>match x,xs with
 |.ref p,[d]=>(match G p with
  |some (.lst ds)=>ds.length<dg/\R .non (aL G p (.lst (ds++[d])))
  |_=>False)
 |_,_=>False
set_option tactic.hygienic true in
theorem adR:a5X X "list.append" lG:=a5X.of a9O λH x xs vx vs G R Q rx rs g q k=>by
 cases rx with
 |ref p =>
  cases rs with
  |nil=>exact False.elim q
  |@cons d v ds ws r rr =>
   cases rr with
   |cons _ _=>exact False.elim q
   |nil =>
    have q':(match G p with
     |some (.lst ds)=>ds.length<dg/\R .non (aL G p (.lst (ds++[d])))
     |_=>False):=q
    split at q'
    .rename_i ds e1;obtain⟨ys,f1,r1⟩:=g p _ e1;refine⟨p,ys,v,rfl,rfl,f1,by rw[←r1.length];exact q'.1,λ_=>?_⟩;have tt:Ts H (upd H p (.lst (ys++[v]))):=.turn f1 (λ_ z=>nomatch z) (λ_ _ z=>nomatch z);exact k _ _ _ _ tt .non (g.turn (u:=.lst (ds++[d])) tt ⟨_,aF,(r1.append (.cons r .nil)).mono tt⟩) q'.2
    .exact q'.elim
 |_=>cases rs<;>exact False.elim q
noncomputable def abI:cB:=λ_ G R=>∀p,G p=aq->R (.ref p) (aL G p (.lF ao []))
theorem aCS:cF X (.Dict [] [] pos) abI:=PE.imp (PE.kf anP) λσ H Q h=>by
 obtain⟨ρ,G,R,s,g,q,k⟩:=h;intro p hp kf;have sn:Same H (upd H p (.dK [])):=bB hp;exact k _ _ _ _ (.same sn) (.ref p) (g.put (u:=.lF ao []) hp (.inl ⟨rfl,[],aF,.nil⟩)) (q p (gP g hp kf))
noncomputable def a4J:cB:=λ_ G R=>∀p,G p=aq->R (.ref p) (aL G p (.zJ []))
theorem avF:cF X (.Dict [] [] pos) a4J:=PE.imp (PE.kf anQ) λσ H Q h=>by
 obtain⟨ρ,G,R,s,g,q,k⟩:=h;intro p hp kf;have sn:Same H (upd H p (.dT [])):=bB hp;exact k _ _ _ _ (.same sn) (.ref p) (g.put (u:=.zJ []) hp ⟨_,aF,.inl ⟨rfl,rfl⟩⟩) (q p (gP g hp kf))
end
end
end L2
namespace L2
open PySem
theorem dI:jr "isinstance"=aj (.builtin "isinstance"):=by decide+kernel
theorem uP:jr "len"=aj (.builtin "len"):=by decide+kernel
theorem aoL:jr "abs"=aj (.builtin "abs"):=by decide+kernel
theorem agV:jr "min"=aj (.builtin "min"):=by decide+kernel
theorem aoM:jr "max"=aj (.builtin "max"):=by decide+kernel
theorem aCT:jr "sum"=aj (.builtin "sum"):=by decide+kernel
theorem agW:jr "int"=aj (.type "int"):=by decide+kernel
theorem aiV:jr "bool"=aj (.type "bool"):=by decide+kernel
theorem uQ:jr "tuple"=aj (.type "tuple"):=by decide+kernel
theorem aiW:jr "list"=aj (.type "list"):=by decide+kernel
theorem aiX:jr "dict"=aj (.type "dict"):=by decide+kernel
theorem a8S:jr "ValueError"=aj (.type "ValueError"):=by decide+kernel
end L2
namespace L2
open PySem PySem.Spec PyProof.Rows
variable{cm:Bool}{lo:Int}{n:Nat}{pos:Pos}
section
noncomputable def Its(x:Str):It:=⟨λi _=>i<x.cps.size,λi H v H'=>H'=H/\∃c,x.cps[i]?=aj c/\v=.str ⟨#[c]⟩,λi _=>x.cps.size<=i⟩
theorem a9Z{w:iy}{K:ig}(it:bx)(x:Str)(t:Tok):Turn cm tl P w K tg (Its x) [it] it (λi h=>h.IsStrIter it "str_ascii_iterator" x t (min i x.cps.size)) where
 mem:=by simp
 obj:=λi h st b hb=>by
  have e:b=it:=by simpa using hb
  subst e;obtain⟨o,e,c,d⟩:=st;exact⟨o,e,λv z=>by rw[d]at z;cases z⟩
 keep:=λi h h' st k=>let⟨o,e,r⟩:=st;⟨o,k it (by simp) o e,r⟩
 item:=by
  intro X hP hw hK hcm ht i pins s σ H E I hf st hg;subst hP hw hK;obtain⟨f0,f1,f2,f3,f4,f5⟩:=hf it (by simp);have hi:i<x.cps.size:=hg;rw[a1s (ur hi)]at st;refine wpAny_pyNext_ascii_item st (c:=x.cps[i]) (by simp[hi]) λh' st' kk=>?_;have I1:Inv X pins σ H {s with heap:=h',toks:=s.toks+1}:=I.turned (λb o hb e=>(kk.2 b hb).trans e) f0 f1 f3 f4 f5;obtain⟨o,e1,c1,d1⟩:=id st';refine⟨_,rfl,a9I (s:={s with heap:=h',toks:=s.toks+1}) e1 c1 d1 (by decide) ⟨.str ⟨#[x.cps[i]]⟩,H,I1,⟨_,rfl⟩,⟨rfl,x.cps[i],by simp[hi],rfl⟩,?_,λb hb=>(hf b hb).1⟩⟩;rw[a1s hi];exact st'
 done:=by
  intro X hP hw hK hcm ht i pins s σ H E I hf st hg;subst hP hw hK;obtain⟨f0,f1,f2,f3,f4,f5⟩:=hf it (by simp);have hi:x.cps.size<=i:=hg;rw[Nat.min_eq_right hi]at st;exact akI (I.hnd.heap I.hok) st (by simp) λh' eb=>⟨rfl,I.turned (t':=s.toks) (λb o hb e=>eb b o hb e) f0 f1 f3 f4 f5⟩
 self:=λ_ _ _ _ _ st h=>wpAny_pyIter_striter_ascii st h
theorem aa0{w:iy}{K:ig}(it:bx)(x:Str)(t:Tok):Turn cm tl P w K tg (Its x) [it] it (λi h=>h.IsStrIter it "str_iterator" x t (min i x.cps.size)) where
 mem:=by simp
 obj:=λi h st b hb=>by
  have e:b=it:=by simpa using hb
  subst e;obtain⟨o,e,c,d⟩:=st;exact⟨o,e,λv z=>by rw[d]at z;cases z⟩
 keep:=λi h h' st k=>let⟨o,e,r⟩:=st;⟨o,k it (by simp) o e,r⟩
 item:=by
  intro X hP hw hK hcm ht i pins s σ H E I hf st hg;subst hP hw hK;obtain⟨f0,f1,f2,f3,f4,f5⟩:=hf it (by simp);have hi:i<x.cps.size:=hg;rw[a1s (ur hi)]at st;refine wpAny_pyNext_wide_item st (c:=x.cps[i]) (by simp[hi]) λh' st' kk=>?_;have I1:Inv X pins σ H {s with heap:=h',toks:=s.toks+1}:=I.turned (λb o hb e=>(kk.2 b hb).trans e) f0 f1 f3 f4 f5;obtain⟨o,e1,c1,d1⟩:=id st';refine⟨_,rfl,a9I (s:={s with heap:=h',toks:=s.toks+1}) e1 c1 d1 (by decide) ⟨.str ⟨#[x.cps[i]]⟩,H,I1,⟨_,rfl⟩,⟨rfl,x.cps[i],by simp[hi],rfl⟩,?_,λb hb=>(hf b hb).1⟩⟩;rw[a1s hi];exact st'
 done:=by
  intro X hP hw hK hcm ht i pins s σ H E I hf st hg;subst hP hw hK;obtain⟨f0,f1,f2,f3,f4,f5⟩:=hf it (by simp);have hi:x.cps.size<=i:=hg;rw[Nat.min_eq_right hi]at st;exact akJ (I.hnd.heap I.hok) st (by simp) λh' eb=>⟨rfl,I.turned (t':=s.toks) (λb o hb e=>eb b o hb e) f0 f1 f3 f4 f5⟩
 self:=λ_ _ _ _ _ st h=>wpAny_pyIter_striter_wide st h
inductive Src where
 |lst (p:bx) (xs:List D)|yZ (xs:List D)|zip (p q:bx) (xs ys:List D)|itm (p:bx) (o:Obj) (kvs:List (DK×D))|key (p:bx) (o:Obj) (t:Bool) (kvs:List (DK×D))|tpl (p:bx) (xs:List D)|enu (p:bx) (xs:List D)|enl (p:bx) (xs:List D)
noncomputable def enm(xs:List D):List D:=xs.zipIdx.map λz=>.tup [.int z.2,z.1]
noncomputable def prs(xs ys:List D):List D:=(xs.zip ys).map λz=>.tup [z.1,z.2]
noncomputable def Src.items:Src->List D
 |.lst _ xs=>xs
 |.yZ xs=>xs
 |.zip _ _ xs ys=>prs xs ys
 |.itm _ _ kvs=>kvs.map λz=>.tup [dkD z.1,z.2]
 |.key _ _ _ kvs=>kvs.map λz=>dkD z.1
 |.tpl _ xs=>xs
 |.enu _ xs=>enm xs
 |.enl _ xs=>enm xs
noncomputable def Src.ok(G:Gp):Src->Prop
 |.lst p xs=>aM G p=aj xs
 |.yZ _=>True
 |.zip p q xs ys=>aM G p=aj xs/\aM G q=aj ys
 |.itm p o kvs=>G p=aj (.rdc o ao kvs)
 |.key p o t kvs=>G p=aj (.rdc o t kvs)
 |.tpl p xs=>G p=aj (.tpl xs)
 |.enl p xs=>aM G p=aj xs
 |.enu p xs=>G p=aj (.tpl xs)
def a1L(K:Fg)(H1:Hp)(src:Src)(J:It):Prop:=∀H2 G2,Ts H1 H2->HR K H2 G2->src.ok G2 ->
 (∀i,i<src.items.length->J.go i H2)/\(∀i v H',i<src.items.length->J.yld i H2 v H'->Same H2 H'/\∃d,src.items[i]?=aj d/\RD K H' d v)/\J.stop src.items.length H2
abbrev TI3:=aN->Gp->(Src->Gp->Prop)->Prop
noncomputable def upI(K:Fg)(t:TI3):TI:=λσ H Q=>∃ρ G R,SR K H ρ σ/\HR K H G/\t ρ G R/\∀src J H' G',Ts H H'->HR K H' G'->a1L K H' src J->R src G'->Q J H'
abbrev PI3(X:Cx)(tg iter:jf)(t:TI3):Prop:=PI X tg iter (upI X.K t)
noncomputable def signs(z:Str):List D:=z.cps.toList.map λc=>.str ⟨#[c]⟩
noncomputable def uR(te:cB):TI3:=λρ G R=>te ρ G λx G1=>match x with
 |.ref p=>(match aM G1 p with
  |some xs=>R (.lst p xs) G1
  |none=>False)
 |.tup xs=>R (.yZ xs) G1
 |.str z=>R (.yZ (signs z)) G1
 |_=>False
theorem aa1{K:Fg}{p:bx}:a1L K H1 (.lst p xs) (Itl K p):=λH2 G2 t g ok=>by
 obtain⟨vs,hq,rv⟩:=bM g (show aM G2 p=aj xs from ok);refine⟨λi hi=>?_,λi v H' hi hy=>?_,⟨vs,hq,a1v rv.length.symm⟩⟩
 .have hi':i<xs.length:=hi;obtain⟨y,e1,_⟩:=rv.get (gw hi');exact⟨vs,y,hq,e1⟩
 .obtain⟨rfl,hy⟩:=hy;obtain⟨d,e1,e2⟩:=rv.adE (hy vs hq);exact⟨.refl _,d,e1,e2⟩
theorem adS{K:Fg}(hq:oH K H1 a vs)(rv:bQ K H1 xs vs):a1L K H1 (.yZ xs) (Itt K a):=λH2 G2 t g ok=>by
 have hq2:=t.sqT hq;have rv2:=rv.mono t;refine⟨λi hi=>?_,λi v H' hi hy=>?_,⟨vs,hq2,a1v rv.length.symm⟩⟩
 .have hi':i<xs.length:=hi;obtain⟨y,e1,_⟩:=rv2.get (gw hi');exact⟨vs,y,hq2,e1⟩
 .obtain⟨rfl,hy⟩:=hy;obtain⟨d,e1,e2⟩:=rv2.adE (hy vs hq2);exact⟨.refl _,d,e1,e2⟩
theorem a5Y{K:Fg}:a1L K H1 (.yZ (signs z)) (Its z):=λH2 G2 t g ok=>by
 have hl:(signs z).length=z.cps.size:=by simp[signs]
 refine⟨λi hi=>?_,λi v H' hi hy=>?_,?_⟩
 .have:i<(signs z).length:=hi;rw[hl]at this;exact this
 .obtain⟨rfl,c,hc,rfl⟩:=hy;exact⟨.refl _,.str ⟨#[c]⟩,by simp[Src.items,signs,hc],.str _⟩
 .show z.cps.size<=(signs z).length;rw[hl];exact dw _
theorem adT{K:Fg}:a1L K H1 (.yZ ((jy n).map λ(i:Nat)=>.int (lo+(i:Int)))) (Itr lo n):=λH2 G2 t g ok=>by
 refine⟨λi hi=>?_,λi v H' hi hy=>?_,?_⟩
 .have hi':i<n:=by simpa[Src.items]using hi
  exact hi'
 .obtain⟨rfl,rfl⟩:=hy;have hi':i<n:=by simpa[Src.items]using hi
  exact⟨.refl _,.int (lo+i),by simp[Src.items,hi'],.int _⟩
 .show n<=_;simp[Src.items]
section
variable{X:Cx}
theorem PI.imp{t:TI}(h:PI X tg e t)(k:∀σ H Q,t' σ H Q->t σ H Q):PI X tg e t':=λpins s σ H Q I q=>h pins s σ H Q I (k _ _ _ q)
set_option tactic.hygienic true in
theorem aIR(hl:cF X l te):PI3 X tg l (uR te):=by
 intro pins s σ H R I h _tk;obtain⟨ρ,G,R3,sr,g,q,k⟩:=h
 refine cL (hl pins s σ H (λv H1=>Ts H H1/\∃x G1,RD X.K H1 x v/\HR X.K H1 G1/\(match x with
  |.ref p=>(match aM G1 p with
   |some xs=>R3 (.lst p xs) G1
   |none=>False)
  |.tup xs=>R3 (.yZ xs) G1
  |.str z=>R3 (.yZ (signs z)) G1
  |_=>False)) I ⟨ρ,G,_,sr,g,q,λv H1 x G1 t1 r g1 q1=>⟨t1,x,G1,r,g1,q1⟩⟩) λv s1 ⟨x,H1,I1,r1,t1,d,G1,rd,g1,q1⟩=>?_
 cases rd with
 |ref a =>
  have q1':(match aM G1 a with
   |some xs=>R3 (.lst a xs) G1
   |none=>False):=q1
  split at q1'
  .rename_i xs e;cases r1;obtain⟨vs,hq,rv⟩:=bM g1 e;obtain⟨its,rv',p,hz⟩:=I1.list hq;refine wpAny_pyIter_list p.isList ?_;refine⟨s1.heap.objs.size,[s1.heap.objs.size],_,_,H1,rfl,I1.kept (t':=s1.toks) λb o e=>cg _ e,a9J a _,⟨_,gV _ rfl,rfl,rfl⟩,λb hb=>?_,k _ _ H1 G1 t1 g1 aa1 q1'⟩;have e:b=s1.heap.objs.size:=by simpa using hb
   subst e;exact I1.uH (dw _) (I1.hok.fresh (dw _))
  .exact q1'.elim
 |@tup a vs xs hq rv =>
  cases r1;obtain⟨its,rv',p,hz⟩:=I1.tuple hq;refine a0f (show s1.heap.IsTuple a its.toArray from p) ?_;refine⟨s1.heap.objs.size,[s1.heap.objs.size],_,_,H1,rfl,I1.kept (t':=s1.toks) λb o e=>cg _ e,a5C a _,⟨_,gV _ rfl,rfl,rfl⟩,λb hb=>?_,k _ _ H1 G1 t1 g1 (adS hq rv) q1⟩;have e:b=s1.heap.objs.size:=by simpa using hb
  subst e;exact I1.uH (dw _) (I1.hok.fresh (dw _))
 |str z =>
  obtain⟨t,rfl⟩:=r1;cases ha:z.cps.all (· <128)
  .refine wpAny_pyIter_wide ha ?_;refine⟨s1.heap.objs.size,[s1.heap.objs.size],_,_,H1,rfl,I1.kept (t':=s1.toks) λb o e=>cg _ e,aa0 _ z t,?_,λb hb=>?_,k _ _ H1 G1 t1 g1 a5Y q1⟩
   .rw[Nat.zero_min];exact⟨_,gV _ rfl,rfl,rfl⟩
   .have e:b=s1.heap.objs.size:=by simpa using hb
    subst e;exact I1.uH (dw _) (I1.hok.fresh (dw _))
  .refine wpAny_pyIter_ascii ha ?_;refine⟨s1.heap.objs.size,[s1.heap.objs.size],_,_,H1,rfl,I1.kept (t':=s1.toks) λb o e=>cg _ e,a9Z _ z t,?_,λb hb=>?_,k _ _ H1 G1 t1 g1 a5Y q1⟩
   .rw[Nat.zero_min];exact⟨_,gV _ rfl,rfl,rfl⟩
   .have e:b=s1.heap.objs.size:=by simpa using hb
    subst e;exact I1.uH (dw _) (I1.hok.fresh (dw _))
 |_=>exact q1.elim
noncomputable def zO(lo hi:Int):List D:=(jy (hi - lo).toNat).map λ(i:Nat)=>.int (lo+(i:Int))
noncomputable def uT(ta:nH):TI3:=λρ G R=>ta ρ G λxs G1=>match xs with
 |[.int j]=>-(2^62)<=j/\j<2^62/\R (.yZ (zO 0 j)) G1
 |_=>False
theorem aCV{p:Pos}(hg:Gl X "range")(hm:X.mg "range"=aq)(ha:PA3 X [a] ta)(hs:je [a] X.env=[(ao,eval a X.env)]):PI3 X tg (.Call (.Name "range" p) [a] [] pos) (uT ta) :=
 PI.imp (a9K hg hm ha hs) λσ H Q h=>by
 obtain⟨ρ,G,R,s,g,q,k⟩:=h;refine⟨ρ,G,_,s,g,q,λvs H1 ds G1 t1 r g1 h1=>?_⟩;cases r with
 |nil=>exact h1.elim
 |cons r rr =>
  cases rr with
  |cons _ _=>cases r<;>exact False.elim h1
  |nil =>
   cases r with
   |int j =>
    obtain⟨l1,l2,h1⟩:=h1;refine⟨j,rfl,l1,l2,k _ _ H1 G1 t1 g1 ?_ h1⟩;unfold zO;rw[show(j - 0).toNat=j.toNat by omega];exact adT
   |_=>exact False.elim h1
end
end
variable{scope:uh}{env:Env}{j:Nat}
section
noncomputable def nM(cells:List (Str×bx)):List (Str×nj)->List (Str×bx)->List (Str×bx)
 |[],cs=>cs
 |(n,k)::r,cs=>nM cells r (if k=.free then(match cells.lookup n with
  |some a=>(n,a)::cs
  |none=>cs)else cs)
theorem pX(h:∀y∈scope.names,y.2=.free->∃c,env.cells.lookup y.1=aj c):closureFor scope env=pure (nM env.cells scope.names []):=by
 unfold closureFor
 have all:∀(l:List (Str×nj))(cs:List (Str×bx)),(∀y∈l,y.2=.free->∃c,env.cells.lookup y.1=aj c) ->
   (forIn l cs λ(x:Str×nj)(r:List (Str×bx))=>(if(x.2==nj.free)=ak then do
    let a ←cellOf env x.1
    pure (ForInStep.yield ((x.1,a)::r))else pure (ForInStep.yield r):Sem (ForInStep (List (Str×bx)))))=(pure (nM env.cells l cs):Sem (List (Str×bx))):=by
  intro l
  induction l with
  |nil=>intro cs _;rfl
  |cons y r ih =>
   intro cs hl;obtain⟨n,k⟩:=y;rw[a0h];by_cases hk:k=.free
   .subst hk;obtain⟨c,hc⟩:=hl (n,.free) (by simp) rfl;have e:cellOf env n=pure c:=by unfold cellOf;rw[hc]
    simp only[beq_self_eq_true,if_true,e];show(forIn r ((n,c)::cs) _:Sem _)=_;rw[ih _ λy hy=>hl y (by simp[hy])];simp only[nM,if_true,hc]
   .have hk':(k==nj.free)=ao:=by simpa using hk
    simp only[hk',qe,if_false];show(forIn r cs _:Sem _)=_;rw[ih _ λy hy=>hl y (by simp[hy])];simp only[nM,if_neg hk]
 have z:=all scope.names [] h;exact congrArg (λm=>m >>= λcs=>pure cs) z
set_option tactic.hygienic true in
theorem iZ{cells:List (Str×bx)}:∀{l:List (Str×nj)}{cs:List (Str×bx)}{y:Str}{c:bx},(nM cells l cs).lookup y=aj c->(∀c,cs.lookup y=aj c->cells.lookup y=aj c)->cells.lookup y=aj c
 |[],cs,y,c,h,k=>k c h
 |(n,kd)::r,cs,y,c,h,k=>by
  unfold nM at h;refine iZ h λc' h'=>?_;by_cases hk:kd=.free
  .rw[if_pos hk]at h';split at h'
   .rename_i a ha;rw[jo]at h';split at h'
    .rename_i e;have e':y=n:=beq_iff_eq.mp e;subst e';rw[ha];exact h'
    .exact k c' h'
   .exact k c' h'
  .rw[if_neg hk]at h';exact k c' h'
theorem a5Z{cells:List (Str×bx)}:∀{l:List (Str×nj)}{cs:List (Str×bx)}{y:Str},(∃c,cs.lookup y=aj c)->∃c,(nM cells l cs).lookup y=aj c
 |[],cs,y,h=>h
 |(n,kd)::r,cs,y,h=>by
  unfold nM;refine a5Z ?_;by_cases hk:kd=.free
  .rw[if_pos hk];split
   ·rw[jo];split
    ·exact⟨_,rfl⟩
    .exact h
   .exact h
  .rw[if_neg hk];exact h
theorem a1M{cells:List (Str×bx)}(hc:cells.lookup y=aj c):∀{l:List (Str×nj)}{cs:List (Str×bx)},(y,nj.free)∈l->∃c,(nM cells l cs).lookup y=aj c
 |[],cs,h=>by simp at h
 |(n,kd)::r,cs,h=>by
  unfold nM;rcases jm.mp h with e|h
  .cases e;refine a5Z ?_;rw[if_pos rfl,hc];simp
  .exact a1M hc h
set_option tactic.hygienic true in
theorem mem_of_lookup{α:Type}:∀{l:List (Str×α)}{y:Str}{k:α},l.lookup y=aj k->(y,k)∈l
 |[],_,_,h=>by simp at h
 |(n,kd)::r,y,k,h=>by
  rw[jo]at h;split at h
  .rename_i e;have e':y=n:=beq_iff_eq.mp e;cases h;subst e';simp
  .exact jw _ (mem_of_lookup h)
structure rT(X:Cx)(xs:List Str)(scope:uh):Prop where
 kind:scope.kind=.function
 agX:∀y∈scope.names,y.2≠.cell
 locs:∀y∈scope.names,y.2=.local->scope.names.lookup y.1=aj .local
 var:∀x∈xs,scope.names.lookup x=aj .local
 frees:∀y∈scope.names,y.2=.free->X.env.kindOf y.1=aj .cell∨X.env.kindOf y.1=aj .free
 out:∀x∈xs,x∉X.N
 nd:xs.Nodup
 only:∀y∈X.N,scope.names.lookup y≠aj .local
noncomputable abbrev j7(X:Cx)(xs:List Str)(scope:uh)(C:bx)(s₃:cj)(H₃:Hp)(fp:List bx)(pins:List (bx×Obj)):Cx :=
 {X with N:=xs++X.N,s₀:=s₃,H₀:=H₃,env:=compEnvC scope (nM X.env.cells scope.names []) C X.env,outer:=X.stack,stack:=X.stack,ex:=fp,fn:=λ_=>ao,pn:=X.pn++pins,xe:=λ_ _=>False,need:=false}
noncomputable def nn(xs:List Str)(σ:St):St:=xs.map (λ_=>aq)++σ
theorem aoN{xs:List Str}{i:Nat}(h:(nn xs σ)[i]?=aj (aj v)):∃j,i=xs.length+j/\σ[j]?=aj (aj v):=by
 unfold nn at h;by_cases c:i<xs.length
 .rw[pq (by simpa using c)]at h;simp at h
 .rw[uo (by simpa using c)]at h;exact⟨i - xs.length,by omega,by simpa using h⟩
theorem aiY{α:Type}{xs ys:List α}:(xs++ys)[xs.length+j]?=ys[j]?:=by
 rw[uo (by omega)];congr 1;omega
theorem dU{env:Env}{k:nj}:∀{names:List (Str×nj)},(names.map λ(n,k)=>if(k==.free&&env.scope.kind==.function&&env.kindOf n==aj .cell)then(n,.cell)else(n,k)).lookup y=aj k ->
  ∃k',names.lookup y=aj k'/\(k=k'∨(k=.cell/\k'=.free))
 |[],h=>by simp at h
 |(n,kd)::r,h=>by
  rw[qd]at h;by_cases hc:(kd==.free&&env.scope.kind==.function&&env.kindOf n==aj .cell)=ak
  .have h':a2d y ((n,nj.cell)::(r.map λ(n,k)=>if(k==.free&&env.scope.kind==.function&&env.kindOf n==aj .cell)then(n,.cell)else(n,k)))=aj k:=by
    simp only[hc,if_true]at h;exact h
   rw[jo]at h' ⊢;cases hx:y==n with
   |true =>
    rw[hx]at h';cases h';refine⟨kd,rfl,.inr ⟨rfl,?_⟩⟩;simp only[bw,beq_iff_eq]at hc;exact hc.1.1
   |false =>
    rw[hx]at h';exact dU h'
  .have h':a2d y ((n,kd)::(r.map λ(n,k)=>if(k==.free&&env.scope.kind==.function&&env.kindOf n==aj .cell)then(n,.cell)else(n,k)))=aj k:=by
    simp only[hc,if_false]at h;exact h
   rw[jo]at h' ⊢;cases hx:y==n with
   |true =>
    rw[hx]at h';cases h';exact⟨_,rfl,.inl rfl⟩
   |false =>
    rw[hx]at h';exact dU h'
end
variable{b:bx}{s':cj}
section
variable{tk:Nat}
section
variable{X:Cx}{scope:uh}{pins:List (bx×Obj)}{s:cj}
theorem abJ(I:Inv X pins σ H s)(hb:b∈frs X.stack):b=X.env.locals∨b∈X.fs:=jm.mp (I.agE b hb)
theorem aCW(I:Inv X pins σ H s)(c:rT X xs scope)(hC:s.heap.objs.size<=C)(hf:∀b∈fp,mJ X pins H b/\b<s.heap.objs.size):(j7 X xs scope C s H fp pins).Ok where
 mod:=I.ok.mod
 kind:=c.kind
 glob:=I.ok.glob
 blt:=I.ok.blt
 above:=hC
 inj:=λy z d h1 h2=>I.ok.inj y z d (iZ h1 λ_ h=>by simp at h) (iZ h2 λ_ h=>by simp at h)
 has:=λy h=>by
  have hy:(y,nj.free)∈scope.names:=by
   rcases h with h|h
   .obtain⟨k',e,z⟩:=dU (env:=X.env) (names:=scope.names) h;rcases z with z|⟨_,z⟩
    .subst z;exact absurd rfl (c.agX _ (mem_of_lookup e))
    .subst z;exact mem_of_lookup e
   .obtain⟨k',e,z⟩:=dU (env:=X.env) (names:=scope.names) h;rcases z with z|⟨z,_⟩
    .subst z;exact mem_of_lookup e
    .cases z
  obtain⟨d,hd⟩:=I.ok.has y (c.frees _ hy rfl);exact a1M hd hy
 cab:=λ_ _ h=>absurd h (by simp)
 hd:=I.ok.hd
 frames:=I.ok.frames
 stk:=.inl rfl
 exf:=λb hb=>by
  obtain⟨⟨f0,f1,f2,f3,f4,f5⟩,lt⟩:=hf b hb;exact⟨jd (iz lt hC),λy d h=>f4 y d (iZ h λ_ h=>by simp at h)⟩
 bs:=λb o e=>I.bs b o e
 bsz:=qz I.ok.bsz I.sz
 a3K:=λb o e hb=>by
  obtain⟨⟨f0,f1,f2,f3,f4,f5⟩,lt⟩:=hf b hb;rcases f3 with z|z
  .exact I.ok.a3K b o e z
  .exact absurd (iz (gk e) (qz I.ok.bsz z)) (ud _)
 a4Y:=λb hb hs=>by
  obtain⟨⟨f0,f1,f2,f3,f4,f5⟩,lt⟩:=hf b hb;rcases abJ I hs with z|z
  .exact f1 z
  .exact f2 z
 nF:=I.stack
 frf:=λb hb=>I.aaZ b hb
theorem aCX(I:Inv X pins σ H s)(c:rT X xs scope)(hC:s.heap.objs.size=C)(hf:∀b∈fp,mJ X pins H b/\b<s.heap.objs.size){h₁:jj}{m:Str->Option bh}(hn:h₁.Ns C m)(hk:∀b o,s.heap.get? b=aj o->h₁.get? b=aj o) :
  Inv (j7 X xs scope C s H fp pins) [] (nn xs σ) H {s with heap:=h₁,toks:=tk}:=by
 have lt:∀b o,s.heap.get? b=aj o->b≠C:=λb o e=>by rw[←hC];exact jd (gk e)
 refine⟨aCW I c (a1v hC) hf,rfl,I.bare,Un.kept hk,⟨m,hn,λi y v e1 e2 e3=>?_⟩,λy d e=>?_,I.hok.fresh (a1v hC),λy d e=>I.gM y d (iZ e λ_ h=>by simp at h),λp hp=>?_,I.hok.kept hk,by simp[nn,I.len],I.hnd,I.tup⟩
 .obtain⟨i,rfl,e2'⟩:=aoN e2
  .have e1':X.N[i]?=aj y:=aiY.symm.trans e1;have hy:y∈X.N:=lq e1'
   have free:(y,nj.free)∈scope.names:=by
    have e3':∃k,(relabel scope X.env).names.lookup y=aj k/\(k=.local∨k=.cell∨k=.free):=by
     rcases e3 with h|h|h
     .exact⟨_,h,.inl rfl⟩
     .exact⟨_,h,.inr (.inl rfl)⟩
     .exact⟨_,h,.inr (.inr rfl)⟩
    obtain⟨k,h,hk⟩:=e3';obtain⟨k',e,z⟩:=dU (env:=X.env) (names:=scope.names) h;rcases z with z|⟨_,z⟩
    .subst z;rcases hk with rfl|rfl|rfl
     .exact absurd e (c.only y hy)
     .exact absurd rfl (c.agX _ (mem_of_lookup e))
     .exact mem_of_lookup e
    .subst z;exact mem_of_lookup e
   have hkd:=c.frees _ free rfl;obtain⟨m',hn',hlo⟩:=I.loc;have vis:Vis X.env.scope y:=hkd.elim (λz=>.inr (.inl z)) λz=>.inr (.inr z);obtain⟨u,r,l⟩:=hlo i y v e1' e2' vis;refine⟨u,r,.inr ⟨?_,?_⟩⟩
   .rcases e3 with h|h|h
    .obtain⟨k',e,z⟩:=dU (env:=X.env) (names:=scope.names) h;rcases z with z|⟨z,_⟩
     .subst z;exact absurd e (c.only y hy)
     .cases z
    .exact .inl h
    .exact .inr h
   .rcases l with⟨hl,_⟩|⟨_,d,hd,hcell⟩
    .rcases hkd with z|z
     .rw[z]at hl;cases hl
     .rw[z]at hl;cases hl
    .obtain⟨d',hd'⟩:=a1M (cells:=X.env.cells) (l:=scope.names) (cs:=[]) hd free;have:=iZ hd' λ_ h=>by simp at h
     rw[hd]at this;cases this;refine⟨d,hd',?_⟩;obtain⟨o,ho,hod⟩:=hcell;exact⟨o,hk _ _ ho,hod⟩
 .obtain⟨w,o,ho,hod⟩:=I.cell y d (iZ e λ_ h=>by simp at h);exact⟨w,o,hk _ _ ho,hod⟩
 .have hp':p∈X.pn++pins:=by simpa using hp
  obtain⟨e,n,ne,nf,d⟩:=I.pin p hp';refine⟨hk _ _ e,n,lt _ _ e,λz=>?_,d⟩;rcases abJ I z with z|z
  .exact ne z
  .exact nf z
theorem avI(I:Inv X pins σ H s)(hC:s.heap.objs.size=C)(hf:∀b∈fp,mJ X pins H b/\b<s.heap.objs.size)(J:Inv (j7 X xs scope C s H fp pins) uG σ' H' s')(hs:qw C s'.heap h') :
  Inv X pins σ H' {s' with heap:=h',toks:=tk}:=by
 have ne:∀b o,s.heap.get? b=aj o->b≠C:=λb o e=>by rw[←hC];exact jd (gk e)
 have u:Un (frs X.stack) fp H H' s.heap s'.heap:=J.base;have hfree:H' C=aq:=J.free;refine I.call' (ch:=fp) J.os ⟨λb o e n hb hx=>?_,λb o e n hb hx=>?_,u.free,λb o e hx=>?_,u.tups,u.fK,u.nD⟩ (λb o e=>?_) J.bare (λb hb=>?_)
 .exact(hs.2 b (ne b o e)).trans (u.keep b o e n hb hx)
 .obtain⟨sl,e1⟩:=u.slot b o e n hb hx;exact⟨sl,(hs.2 b (ne b o e)).trans e1⟩
 .obtain⟨o',e1⟩:=u.there b o e hx;exact⟨o',(hs.2 b (ne b o e)).trans e1⟩
 .refine(J.hok b o e).stay (λd w hd q=>(hs.2 d ?_).trans q) (λ_ q=>q) λ_ _ q=>q;rintro rfl;rcases hd with z|z
  .rw[z]at hfree;rw[e]at hfree;cases hfree
  .rw[hfree]at z;cases z
 .obtain⟨⟨f0,f1,f2,f3,f4,f5⟩,lt⟩:=hf b hb;exact⟨f3,f1,f4,f5⟩
end
end
variable{pins:List (bx×Obj)}{prog:jt}{N:List Str}
section
noncomputable def lV:xP:=λ_ G R=>R ak G
noncomputable def alB(X:Cx)(ifs:List jf)(tc:xP):Prop :=
 ∀(pins:List (bx×Obj))(s:cj)(σ:St)(H:Hp)(Q:Bool->Hp->Prop),Inv X pins σ H s->upT X.K tc σ H Q->[Tk X.need s] ->
  cu (fj X.prog X.w) X.A (forIn ifs ak λc r=>if r=ak then do let ok ←isTrue c X.env (eval c X.env);pure (ForInStep.yield ok)else pure (ForInStep.yield r)) (TP X pins σ Q) X.xe s
theorem avJ:alB X [] lV:=λpins s σ H Q I h=>by
 obtain⟨ρ,G,R,sr,g,q,k⟩:=h;exact dh ⟨H,I,k ak H G (.refl H) g q⟩
theorem avK(hc:PT3 X c tc):alB X [c] tc:=λpins s σ H Q I h=>by
 rw[a0h];simp only[if_true];refine au (au (cL (hc pins s σ H Q I h) λb s1 q=>?_));intro aGP;exact dh (dh q)
section
variable{X:Cx}{x:Str}{xs:List Str}{tgt:jf}{dv:D->Option (List D)}{scope:uh}{iter elt:jf}{ifs:List jf}{pos:Pos}{ti:TI3}{tc:xP}{te:cB}
structure avL(X:Cx)(pins:List (bx×Obj))(H':Hp)(C:bx)(h:jj):Prop where
 ns:∃m,h.Ns C m
 free:H' C=aq
 loc:C≠X.env.locals
 young:X.s₀.heap.objs.size<=C
 cells:∀y d,X.env.cells.lookup y=aj d->d≠C
 pins:∀p∈X.pn++pins,p.1≠C
theorem avL.turn{X:Cx}{s:cj}(o:avL X pins H' C s.heap)(I:Inv X pins σ H' s)(hs:qw C s.heap h'):Inv X pins σ H' {s with heap:=h' } :=
 I.turned (t':=s.toks) (λb ob hb e=>(hs.2 b hb).trans e) o.free o.loc (.inr o.young) o.cells o.pins
def aoO(Y:Cx)(tgt:jf)(xs:List Str)(dv:D->Option (List D))(σ:St):Prop:=∀(pins:List (bx×Obj))(s:cj)(H:Hp)(v:V)(u:bh)(d:D)(ds:List D),Inv Y pins (nn xs σ) H s->RelV v u->RD Y.K H d v->dv d=aj ds ->
 cu (fj Y.prog Y.w) Y.A (assign tgt Y.env u) (λ_ s'=>∃vs,bQ Y.K H ds vs/\Inv Y pins (vs.map aj++σ) H s') Y.xe s
theorem aoP{K:Fg}(s:SR K H ρ σ):∀{ds:List D}{vs:List V},bQ K H ds vs->SR K H (ds.map aj++ρ) (vs.map aj++σ)
 |_,_,.nil=>s
 |_,_,.cons h r=>.some h (aoP s r)
set_option tactic.hygienic true in
theorem aoQ{w:iy}{A:iw}{elt iter:jf}{ifs:List jf}(J:Nat->cj->Prop)
  (turn:∀n s,J n s->cu (fj prog w) A (zc it) (λr s1=>match r with
   |none=>R (.ok .next) s1
   |some v=>cu (fj prog w) A (a1p target it v) (λ_ s1'=>cu (fj prog w) A (assign target env v) (λ_ s2 =>
     cu (fj prog w) A (forIn ifs ak λc r=>if r=ak then do let ok ←isTrue c env (eval c env);pure (ForInStep.yield ok)else pure (ForInStep.yield r)) (λok s3 =>
      if ok=ak then cu (fj prog w) A (eval elt env) (λx s4 =>
         cu (fj prog w) A (call (.builtin "list.append") [acc,x]) (λ_ s5=>∃m,m<n/\J m s5) (notedBy (fj prog w) A env λe s'=>R (.error e) s') s4) (notedBy (fj prog w) A env λe s'=>R (.error e) s') s3
      else ∃m,m<n/\J m s3) (notedBy (fj prog w) A env λe s'=>R (.error e) s') s2) (notedBy (fj prog w) A env λe s'=>R (.error e) s') s1') (notedBy (fj prog w) A env λe s'=>R (.error e) s') s1) (notedBy (fj prog w) A env λe s'=>R (.error e) s') s)
  (n:Nat)(h:J n s):yu (fj prog w) A (.compLoop (.ListComp elt [⟨target,iter,ifs,0⟩] scope pos) 0 it acc env) R s:=by
 refine codeAny_loop rfl J (λn s hJ=>?_) n h;show cu _ A ((compTurn (.ListComp elt [⟨target,iter,ifs,0⟩] scope pos) 0 it acc env).onRaise (λz=>do noteFrame z env;theTreesLotGoes z)) _ _ s;refine wpAny_noted ?_;rw[compTurn_list];refine au (a1h (au (lg (turn n s hJ) (λr s1 h1=>?_) λ_ _ z=>z)));cases r with
 |none=>exact dh h1
 |some v =>
  refine au (lg h1 (λ_ s1' h1'=>?_) λ_ _ z=>z);refine au (lg h1' (λ_ s2 h2=>au (lg h2 (λok s3 h3=>?_) λ_ _ z=>z)) λ_ _ z=>z);cases ok with
  |false=>exact dh ⟨rfl,h3⟩
  |true=>exact au (au (lg h3 (λx s4 h4=>au (lg h4 (λ_ s5 h5=>dh (dh ⟨rfl,h5⟩)) λ_ _ z=>z)) λ_ _ z=>z))
set_option tactic.hygienic true in
theorem aa2(c:rT X xs scope)(hT:∀C s H fp pins σ,aoO (j7 X xs scope C s H fp pins) tgt xs dv σ)(hdv:∀d ds,dv d=aj ds->ds.length=xs.length)(hc:∀C s H fp pins,alB (j7 X xs scope C s H fp pins) ifs tc)(he:∀C s H fp pins,cF (j7 X xs scope C s H fp pins) elt te){s2:cj}{σ:St}{H H2:Hp}{ρ:aN}{G1:Gp}{R:fL}{it:bx}{fp:List bx}{tn:Nat->jj->Prop}{J:It}{src:Src}{RR:bh->bx->Result->cj->Prop}(sr:SR X.K H ρ σ)(I2:Inv X pins σ H2 s2)(T:Turn X.calm X.tp X.prog X.w X.K tgt J fp it tn)(st2:tn 0 s2.heap)(f2:∀b∈fp,mJ X pins H2 b)(t1:Ts H H2)(g1:HR X.K H2 G1)(sj:a1L X.K H2 src J)
  (hlen:src.items.length<dg)(body:∀p,G1 p=aq->∃P:Nat->List D->Gp->Prop,P 0 [] (aL G1 p (.lst [])) /\
   (∀k ds G,k<=src.items.length->P k ds G->src.ok G/\G p=aj (.lst ds)/\ds.length<=k) /\
   (∀k d ds G,src.items[k]?=aj d->P k ds G->∃ys,dv d=aj ys/\tc (ys.map aj++ρ) G λb G2=>if b=ak then te (ys.map aj++ρ) G2 λy G3=>G3 p=aj (.lst ds)/\P (k+1) (ds++[y]) (aL G3 p (.lst (ds++[y])))else P (k+1) ds G2) /\
   ∀ds G,P src.items.length ds G->∃G0,Le G0 G/\R (.ref p) G0)
  (hRR:∀Da C s5 H' G0,Inv X pins σ H' s5->avL X pins H' C s5.heap->Ts H H'->HR X.K H' G0->R (.ref Da) G0->RR (.ref Da) C (.ok .next) s5) :
  cu (fj X.prog X.w) X.A (newList []) (λacc s₃=>cu (fj X.prog X.w) X.A (newFunctionEnv scope X.env.globals (nM X.env.cells scope.names []) [] X.env.qual aq .none (aj X.env)) (λcenv s₄ =>
   yu (fj X.prog X.w) X.A (.compStart (.ListComp elt [⟨tgt,iter,ifs,0⟩] scope pos) 0 (.ref it) acc {cenv with scope:=relabel scope X.env}) (RR acc cenv.locals) s₄) X.xe s₃) X.xe s2:=by
 refine ni ?_;have I3:=I2.aHL (its:=[]) (ys:=[]) (t':=s2.toks) .nil (by decide);have hD:H2 s2.heap.objs.size=aq:=I2.fresh;have kf:=oM I3;have gD:G1 s2.heap.objs.size=aq:=gP g1 hD kf;obtain⟨P,p0,pok,pst,pend⟩:=body _ gD
 have ltD:∀b∈fp,b<s2.heap.objs.size:=λb hb=>by
  obtain⟨o,e,_⟩:=T.obj 0 _ st2 b hb;exact gk e
 have hsz3:(s2.heap.push {cls:=.type "list",data:=.seq ([]:List bh).toArray}).objs.size=s2.heap.objs.size+1:=wu ..
 have hf3:∀b∈fp,mJ X pins (upd H2 s2.heap.objs.size (.lst [])) b/\b<(s2.heap.push {cls:=.type "list",data:=.seq ([]:List bh).toArray}).objs.size:=λb hb=>by
  obtain⟨f0,fr⟩:=f2 b hb;exact⟨⟨by rw[aJ (jd (ltD b hb))];exact f0,fr⟩,by rw[hsz3];exact a1d (ltD b hb)⟩
 refine wpAny_newFunctionEnv c.agX (by intro y hy;simp at hy) (λh₁ hns₁ hsb₁=>?_) c.kind;dsimp only at hns₁ hsb₁ ⊢;generalize hH3:s2.heap.push {cls:=.type "list",data:=.seq ([]:List bh).toArray}=h3 at *;generalize hDe:s2.heap.objs.size=Da at *;have azP:∀b o,h3.get? b=aj o->h₁.get? b=aj o:=λb o e=>hsb₁.extBut b o (jd (gk e)) (cg _ e)
 show yu (fj X.prog X.w) X.A (Code.compStart (elt.ListComp [{target:=tgt,iter:=iter,ifs:=ifs,is_async:=0}] scope pos) 0 (bh.ref it) (bh.ref Da) (compEnvC scope (nM X.env.cells scope.names []) h3.objs.size X.env))
  (RR (.ref Da) h3.objs.size) {s2 with heap:=h₁,toks:=s2.toks+([]:List (Str×bh)).length}
 have J0:=aCX (tk:=s2.toks+([]:List (Str×bh)).length) I3 c rfl hf3 hns₁ azP;have st1:tn 0 h₁:=T.keep _ _ _ st2 λb hb o e=>azP b o (by rw[←hH3];exact cg _ e);have g0:HR X.K (upd H2 Da (.lst [])) (aL G1 Da (.lst [])):=g1.put (u:=.lst []) hD ⟨[],aF,.nil⟩;have ts0:Ts H2 (upd H2 Da (.lst [])):=.same (bB hD)
 have loop:∀s₄:cj,Inv (j7 X xs scope h3.objs.size {s2 with heap:=h3,toks:=s2.toks} (upd H2 Da (.lst [])) fp pins) [] (nn xs σ) (upd H2 Da (.lst [])) s₄->tn 0 s₄.heap ->
   yu (fj X.prog X.w) X.A (.compLoop (.ListComp elt [⟨tgt,iter,ifs,0⟩] scope pos) 0 (.ref it) (.ref Da) (compEnvC scope (nM X.env.cells scope.names []) h3.objs.size X.env)) (RR (.ref Da) h3.objs.size) s₄:=by
  intro s₄ J4 st4
  refine aoQ (λn s'=>∃i ds H' G',Inv (j7 X xs scope h3.objs.size {s2 with heap:=h3,toks:=s2.toks} (upd H2 Da (.lst [])) fp pins) [] (nn xs σ) H' s'/\tn i s'.heap/\(∀b∈fp,H' b=aq)/\HR X.K H' G'/\P i ds G'/\i<=src.items.length/\n=src.items.length - i/\Ts H2 H') (λn s' hI=>?_) src.items.length
   ⟨0,[],_,_,J4,st4,λb hb=>(hf3 b hb).1.1,g0,p0,vm _,by simp,ts0⟩
  obtain⟨i,ds,H',G',J,st,fr,g',p,hi',rfl,ts⟩:=hI;obtain⟨ok,hDl,hdl⟩:=pok i ds G' hi' p;obtain⟨sgo,aO1,aIT⟩:=sj H' G' ts g' ok
  have fpX:∀{H':Hp},(∀b∈fp,H' b=aq)->∀b∈fp,mJ (j7 X xs scope h3.objs.size {s2 with heap:=h3,toks:=s2.toks} (upd H2 Da (.lst [])) fp pins) [] H' b:=λhn b hb=>by
   obtain⟨⟨f0,f1,f2',f3,f4,f5⟩,lt⟩:=hf3 b hb;refine⟨hn b hb,jd lt,λhs=>?_,.inl hb,λy d e=>f4 y d (iZ e λ_ h=>by simp at h),λp' hp'=>f5 p' (by simpa using hp')⟩;rcases abJ I3 hs with z|z
   .exact f1 z
   .exact f2' z
  by_cases hlt:i<src.items.length
  .refine lg (T.item (j7 X xs scope h3.objs.size {s2 with heap:=h3,toks:=s2.toks} (upd H2 Da (.lst [])) fp pins) rfl rfl rfl (λh=>h) (λ_ h=>h) i [] s' (nn xs σ) H' (λ_ _=>False) J (fpX fr) st (sgo i hlt)) ?_ λ_ _ z=>z.elim;rintro r s5 ⟨u,hr,h5⟩;subst hr
   obtain⟨d0,ys,hd0,ey,aO3⟩:∃d ys,src.items[i]?=aj d/\dv d=aj ys/\tc (ys.map aj++ρ) G' λb G2=>if b=ak then te (ys.map aj++ρ) G2 λy G3=>G3 Da=aj (.lst ds)/\P (i+1) (ds++[y]) (aL G3 Da (.lst (ds++[y])))else P (i+1) ds G2:=by
    have hd:src.items[i]?=aj src.items[i]:=gw hlt;obtain⟨ys,e,z⟩:=pst i _ ds G' hd p;exact⟨_,ys,hd,e,z⟩
   show cu _ _ (a1p tgt (.ref it) u) _ _ s5;refine lg h5 ?_ λ_ _ z=>z.elim;rintro _ s6 ⟨vx,H6,I6,r6,y6,st6,fr6⟩;obtain⟨sm,d,hd,rd⟩:=aO1 i vx H6 hlt y6;have g':=g'.same sm;have ts:=ts.trans (.same sm);obtain rfl:d0=d:=jk.inj (hd0.symm.trans hd);have I6':=I6.pinned (fpX fr6) (T.obj _ _ st6);refine lg (hT _ _ _ _ _ _ _ s6 H6 vx u _ _ I6' r6 rd ey) ?_ λ_ _ z=>z.elim;rintro _ s7 ⟨vs,rvs,I7⟩;have lv:vs.length=xs.length:=by rw[←rvs.length];exact hdv _ _ ey
   have aoR:∀{s'':cj}{σ'':St}{H'':Hp},Inv (j7 X xs scope h3.objs.size {s2 with heap:=h3,toks:=s2.toks} (upd H2 Da (.lst [])) fp pins) ([]++a1C fp s6.heap) σ'' H'' s''->tn (i+1) s''.heap/\∀b∈fp,H'' b=aq:=λI''=>by
    refine⟨T.keep _ _ _ st6 λb hb o e=>(I''.pin (b,o) (qy _ (qy _ (rK hb e)))).1,λb hb=>?_⟩;obtain⟨o,e,_⟩:=T.obj _ _ st6 b hb;exact(I''.pin (b,o) (qy _ (qy _ (rK hb e)))).2.1
   have down:∀{s'':cj}{H'':Hp},Inv (j7 X xs scope h3.objs.size {s2 with heap:=h3,toks:=s2.toks} (upd H2 Da (.lst [])) fp pins) ([]++a1C fp s6.heap) (vs.map aj++σ) H'' s''->Inv (j7 X xs scope h3.objs.size {s2 with heap:=h3,toks:=s2.toks} (upd H2 Da (.lst [])) fp pins) [] (nn xs σ) H'' s'':=λI'' =>
    I''.z7.weak (by simp[nn,lv]) λj v e=>by
     obtain⟨j',rfl,e'⟩:=aoN e;rw[←lv,show vs.length=(vs.map aj).length by simp,aiY];exact e'
   have sr7:SR X.K H6 (ys.map aj++ρ) (vs.map aj++σ):=aoP (sr.mono (t1.trans ts)) rvs
   refine lg (hc _ _ _ _ _ _ s7 (vs.map aj++σ) H6 (λb H8=>Ts H6 H8/\∃G8,HR X.K H8 G8/\(if b=ak then te (ys.map aj++ρ) G8 λy G3=>G3 Da=aj (.lst ds)/\P (i+1) (ds++[y]) (aL G3 Da (.lst (ds++[y])))else P (i+1) ds G8)) I7
    ⟨ys.map aj++ρ,G',_,sr7,g',aO3,λb H8 G8 t8 g8 q8=>⟨t8,G8,g8,q8⟩⟩) (λb s8 ⟨H8,I8,t8,G8,g8,q8⟩=>?_) λ_ _ z=>z.elim
   cases b with
   |false =>
    rw[if_neg (by decide)];have q8':P (i+1) ds G8:=by simpa using q8
    obtain⟨a1,a2⟩:=aoR I8;exact⟨src.items.length - (i+1),by omega,i+1,ds,H8,G8,down I8,a1,a2,g8,q8',hlt,rfl,ts.trans t8⟩
   |true =>
    rw[if_pos rfl];have q8':te (ys.map aj++ρ) G8 λy G3=>G3 Da=aj (.lst ds)/\P (i+1) (ds++[y]) (aL G3 Da (.lst (ds++[y]))):=by simpa using q8
    refine lg (he _ _ _ _ _ _ s8 (vs.map aj++σ) H8 (λvy H9=>Ts H8 H9/\∃y G9,RD X.K H9 y vy/\HR X.K H9 G9/\G9 Da=aj (.lst ds)/\P (i+1) (ds++[y]) (aL G9 Da (.lst (ds++[y])))) I8 ⟨ys.map aj++ρ,G8,_,sr7.mono t8,g8,q8',λvy H9 y G9 t9 r9 g9 q9=>⟨t9,y,G9,r9,g9,q9⟩⟩) ?_ λ_ _ z=>z.elim;rintro uy s9 ⟨vy,H9,I9,ry,t9,y,G9,ryd,g9,hG9,q9⟩;obtain⟨ws,hH9,rws⟩:=g9 Da _ hG9;have aIV:ws.length<dg:=by rw[←rws.length];omega
    refine lg (a9O (X:=j7 X xs scope h3.objs.size {s2 with heap:=h3,toks:=s2.toks} (upd H2 Da (.lst [])) fp pins) _ s9 (vs.map aj++σ) H9 (.ref Da) [vy] (.ref Da) [uy] (λ_ H10=>H10=upd H9 Da (.lst (ws++[vy]))) I9 rfl (.cons ry .nil) ⟨Da,ws,vy,rfl,rfl,hH9,aIV,rfl⟩) ?_ λ_ _ z=>z.elim;rintro _ s10 ⟨_,H10,I10,_,e10⟩;subst e10;obtain⟨a1,a2⟩:=aoR I10;have tt:Ts H9 (upd H9 Da (.lst (ws++[vy]))):=.turn hH9 (λ_ z=>nomatch z) (λ_ _ z=>nomatch z);exact⟨src.items.length - (i+1),by omega,i+1,ds++[y],_,_,down I10,a1,a2,g9.turn (u:=.lst (ds++[y])) tt ⟨_,aF,(rws.append (.cons ryd .nil)).mono tt⟩,q9,hlt,rfl,((ts.trans t8).trans t9).trans tt⟩
  .have ein:i=src.items.length:=by omega
   subst ein;refine lg (T.done (j7 X xs scope h3.objs.size {s2 with heap:=h3,toks:=s2.toks} (upd H2 Da (.lst [])) fp pins) rfl rfl rfl (λh=>h) (λ_ h=>h) _ [] s' (nn xs σ) H' (λ_ _=>False) J (fpX fr) st aIT) ?_ λ_ _ z=>z.elim;rintro r s5 ⟨hr,J5⟩;subst hr;obtain⟨m5,hn5,_⟩:=id J5.loc;obtain⟨G0,l0,q0⟩:=pend ds G' p;have I5:Inv X pins σ H' s5:=avI (tk:=s5.toks) I3 rfl hf3 J5 (qw.refl _ _);refine hRR Da _ s5 H' G0 I5 ⟨⟨m5,hn5⟩,J5.free,yj I3.lt,I3.sz,λy d e z=>?_,λp hp z=>?_⟩ (t1.trans ts) (g'.le l0) q0
   .obtain⟨w,o,ho,_⟩:=I3.cell y d e;rw[z]at ho;exact absurd (gk ho) (ud _)
   .have:=(I3.pin p hp).1;rw[z]at this;exact absurd (gk this) (ud _)
 exact codeAny_compStart_list (loop _ J0 st1) (T.self X.A 0 _ _ _ st1 (loop _ J0 st1))
noncomputable def zP(dv:D->Option (List D))(ti:TI3)(tc:xP)(te:cB):cB:=λρ G R=>ti ρ G λsrc G1=>src.items.length<dg/\∀p,G1 p=aq->∃P:Nat->List D->Gp->Prop,P 0 [] (aL G1 p (.lst [])) /\
 (∀k ds G,k<=src.items.length->P k ds G->src.ok G/\G p=aj (.lst ds)/\ds.length<=k) /\
 (∀k d ds G,src.items[k]?=aj d->P k ds G->∃ys,dv d=aj ys/\tc (ys.map aj++ρ) G λb G2=>if b=ak then te (ys.map aj++ρ) G2 λy G3=>G3 p=aj (.lst ds)/\P (k+1) (ds++[y]) (aL G3 p (.lst (ds++[y])))else P (k+1) ds G2) /\
 ∀ds G,P src.items.length ds G->∃G0,Le G0 G/\R (.ref p) G0
noncomputable def agY(d:D):Option (List D):=some [d]
noncomputable abbrev uU(ti:TI3)(tc:xP)(te:cB):cB:=zP agY ti tc te
noncomputable def aoS(n:Nat)(d:D):Option (List D):=match d with
 |.tup ds=>if ds.length=n then aj ds else aq
 |_=>aq
noncomputable abbrev a4K(n:Nat)(ti:TI3)(tc:xP)(te:cB):cB:=zP (aoS n) ti tc te
theorem adU(d:D)(ds:List D)(h:agY d=aj ds):ds.length=[x].length:=by
 unfold agY at h;cases h;rfl
set_option tactic.hygienic true in
theorem aiZ{ds:List D}(h:aoS n d=aj ds):d=.tup ds/\ds.length=n:=by
 unfold aoS at h;split at h
 .split at h
  .rename_i e;cases h;exact⟨rfl,e⟩
  .cases h
 .cases h
theorem agZ(c:rT X xs scope)(hnd:X.N.Nodup):(xs++X.N).Nodup:=List.nodup_append.mpr ⟨c.nd,hnd,λa ha b hb e=>c.out a ha (e ▸ hb)⟩
theorem aoT(c:rT X [x] scope)(hnd:X.N.Nodup):aoO (j7 X [x] scope C s H fp pins) (.Name x px) [x] agY σ:=by
 intro uG s' H' v u d ds I r rd e;unfold agY at e;cases e;have pgn:PG (j7 X [x] scope C s H fp pins) (.Name x px) (aiD 0):=ab0 (agZ c hnd) rfl (.inl (a0m (c.var x (by simp)))) (.inr (a0m (c.var x (by simp))));refine lg (pgn uG s' (nn [x] σ) H' v u (λσ' H2=>σ'=[v].map aj++σ/\H2=H') I r ⟨rfl,rfl⟩) ?_ λ_ _ z=>z;rintro _ s2 ⟨σ2,H2,I2,e2,e3⟩;subst e2;subst e3;exact⟨[v],.cons rd .nil,I2⟩
theorem abK(c:rT X xs scope)(hT:∀C s H fp pins σ,aoO (j7 X xs scope C s H fp pins) tgt xs dv σ)(hdv:∀d ds,dv d=aj ds->ds.length=xs.length)(hi:PI3 X tgt iter ti)(hc:∀C s H fp pins,alB (j7 X xs scope C s H fp pins) ifs tc)(he:∀C s H fp pins,cF (j7 X xs scope C s H fp pins) elt te)
  (hs:∀y,a0l iter X.env y=pure y):cF X (.ListComp elt [⟨tgt,iter,ifs,0⟩] scope pos) (zP dv ti tc te):=by
 intro pins s σ H Q I h _tk;obtain⟨ρ,G,R,sr,g,q,kk⟩:=h;rw[eval_ListComp];refine wpAny_comprehension_free (use:=none) rfl hs (pX λy hy hf=>I.ok.has y.1 (c.frees y hy hf)) c.kind c.locs ?_
 refine cL (hi pins s σ H (λJ H1=>Ts H H1/\∃src G1,HR X.K H1 G1/\a1L X.K H1 src J/\(src.items.length<dg/\∀p,G1 p=aq->∃P:Nat->List D->Gp->Prop,P 0 [] (aL G1 p (.lst [])) /\
   (∀k ds G,k<=src.items.length->P k ds G->src.ok G/\G p=aj (.lst ds)/\ds.length<=k) /\
   (∀k d ds G,src.items[k]?=aj d->P k ds G->∃ys,dv d=aj ys/\tc (ys.map aj++ρ) G λb G2=>if b=ak then te (ys.map aj++ρ) G2 λy G3=>G3 p=aj (.lst ds)/\P (k+1) (ds++[y]) (aL G3 p (.lst (ds++[y])))else P (k+1) ds G2) /\
   ∀ds G,P src.items.length ds G->∃G0,Le G0 G/\R (.ref p) G0)) I ⟨ρ,G,_,sr,g,q,λsrc J H' G' t1 g1 sj q1=>⟨t1,src,G',g1,sj,q1⟩⟩) λv s1 h1=>cL h1 λitv s2 hz=>?_
 obtain⟨it,fp,tn,J,H2,e,I2,T,st2,f2,t1,src,G1,g1,sj,hlen,body⟩:=hz;subst e
 exact aa2 (RR:=λacc C=>compPost (fj X.prog X.w) X.A X.xe aq (EP X pins σ Q) acc C) c hT hdv hc he sr I2 T st2 f2 t1 g1 sj hlen body λDa C s5 H' G0 I5 o ts g0 q0=>by
  obtain⟨m,hn⟩:=o.ns;exact⟨m,hn,λh' hs'=>⟨.ref Da,H',o.turn I5 hs',rfl,kk _ H' _ G0 ts (.ref Da) g0 q0⟩⟩
set_option tactic.hygienic true in
theorem avM{i:Nat}(c:rT X xs scope)(hT:∀C s H fp pins σ,aoO (j7 X xs scope C s H fp pins) tgt xs dv σ)(hdv:∀d ds,dv d=aj ds->ds.length=xs.length)(hnd:X.N.Nodup)(hy:X.N[i]?=aj y)(hl:Loc X.env.scope y)(hf:X.fn y=ak)(hi:PI3 X tgt iter ti)(hc:∀C s H fp pins,alB (j7 X xs scope C s H fp pins) ifs tc)(he:∀C s H fp pins,cF (j7 X xs scope C s H fp pins) elt te)
  (hs:∀y,a0l iter X.env y=pure y):PS3 X (.Assign [.Name y py] (.ListComp elt [⟨tgt,iter,ifs,0⟩] scope pos) spos) (bZ i (zP dv ti tc te)):=by
 have hsw:∃b,a0z (.ListComp elt [⟨tgt,iter,ifs,0⟩] scope pos) (aj (.Name y py)) spos.line X.env=pure b:=⟨_,rfl⟩;obtain⟨b,hsw⟩:=hsw;cases b with
 |false=>exact azL hnd hy hl (abK c hT hdv hi hc he hs) hsw (.inl hf)
 |true =>
  intro pins s σ H F I h _tk;obtain⟨ρ,G,E,sr,g,q,d⟩:=h;rw[exec_Assign_Name_used _ _ _ _ hsw];refine au (a1h (au ?_));show cu _ X.A (do let _ ←comprehension (.ListComp elt [⟨tgt,iter,ifs,0⟩] scope pos) scope X.env _ (newList []) ao (eval iter X.env) (aj (assign (.Name y py) X.env))) _ _ s;refine au (lg (wpAny_comprehension_free (use:=some (assign (.Name y py) X.env)) (Q:=λ_ s'=>SP X pins F .next s') rfl hs (pX λy hy hf=>I.ok.has y.1 (c.frees y hy hf)) c.kind c.locs ?_) (λ_ s' hq=>dh (dh hq)) λ_ _ e=>e)
  refine cL (hi pins s σ H (λJ H1=>Ts H H1/\∃src G1,HR X.K H1 G1/\a1L X.K H1 src J/\(src.items.length<dg/\∀p,G1 p=aq->∃P:Nat->List D->Gp->Prop,P 0 [] (aL G1 p (.lst [])) /\
    (∀k ds G,k<=src.items.length->P k ds G->src.ok G/\G p=aj (.lst ds)/\ds.length<=k) /\
    (∀k d ds G,src.items[k]?=aj d->P k ds G->∃ys,dv d=aj ys/\tc (ys.map aj++ρ) G λb G2=>if b=ak then te (ys.map aj++ρ) G2 λy G3=>G3 p=aj (.lst ds)/\P (k+1) (ds++[y]) (aL G3 p (.lst (ds++[y])))else P (k+1) ds G2) /\
    ∀ds G,P src.items.length ds G->∃G0,Le G0 G/\E.nx (xD ρ i (.ref p)) G0)) I ⟨ρ,G,_,sr,g,q,λsrc J H' G' t1 g1 sj q1=>⟨t1,src,G',g1,sj,q1⟩⟩) λv s1 h1=>cL h1 λitv s2 hz=>?_
  obtain⟨it,fp,tn,J,H2,e,I2,T,st2,f2,t1,src,G1,g1,sj,hlen,body⟩:=hz;subst e;refine aa2 (R:=λz G0=>E.nx (xD ρ i z) G0) (RR:=λacc C=>compPost (fj X.prog X.w) X.A X.xe (aj (assign (.Name y py) X.env)) (λ_ s'=>SP X pins F .next s') acc C) c hT hdv hc he sr I2 T st2 f2 t1 g1 sj hlen body λDa C s5 H' G0 I5 o ts g0 q0=>?_;show cu _ X.A (assign (.Name y py) X.env (.ref Da)) _ _ s5;refine wpAny_assign_Name (a9H (v:=.ref Da) I5 hnd hy hl rfl ?_ (.inl hf));rintro s6 I6 ⟨a,hsb,ha⟩;obtain⟨m,hn⟩:=o.ns
  have hCa:C≠a:=by
   rcases ha with rfl|ha
   .exact o.loc
   .exact λz=>o.cells y a ha z.symm
  have o6:avL X pins H' C s6.heap:=⟨⟨m,hn.sameBut hsb hCa⟩,o.free,o.loc,o.young,o.cells,o.pins⟩;refine⟨m,hn.sameBut hsb hCa,λh' hs'=>⟨_,H',o6.turn I6 hs',d.nx _ G0 _ H' ((sr.mono ts).set (.ref Da) i) g0 q0⟩⟩
end
end
variable{body:List kj}
section
abbrev TG3:=D->aN->(aN->Prop)->Prop
noncomputable def upG(K:Fg)(t:TG3):TG:=λv σ H Q=>∃ρ d R,SR K H ρ σ/\RD K H d v/\t d ρ R/\∀ρ' σ',SR K H ρ' σ'->R ρ'->Q σ' H
abbrev PG3(X:Cx)(tg:jf)(t:TG3):Prop:=PG X tg (upG X.K t)
noncomputable def nO(i:Nat):TG3:=λd ρ Q=>Q (xD ρ i d)
noncomputable def a2R:aN->List Nat->List D->aN
 |ρ,i::is,d::ds=>a2R (xD ρ i d) is ds
 |ρ,_,_=>ρ
noncomputable def a2S(is:List Nat):TG3:=λd ρ Q=>match d with
 |.tup ds=>ds.length=is.length/\Q (a2R ρ is ds)
 |_=>False
noncomputable def aa3:St->List Nat->List V->St
 |σ,i::is,v::vs=>aa3 (σ.set i (aj v)) is vs
 |σ,_,_=>σ
theorem SR.sets{K:Fg}:∀{is:List Nat}{ds:List D}{vs:List V}{ρ:aN}{σ:St},bQ K H ds vs->SR K H ρ σ->SR K H (a2R ρ is ds) (aa3 σ is vs)
 |[],_,_,_,_,_,s=>s
 |_::_,_,_,_,_,.nil,s=>s
 |i::is,_,_,_,_,.cons h r,s=>SR.sets (is:=is) r (s.set h i)
variable{p:bx}
section
variable{X:Cx}
theorem PG.imp{t:TG}(h:PG X e t)(k:∀v σ H Q,t' v σ H Q->t v σ H Q):PG X e t':=λpins s σ H v u Q I r q=>h pins s σ H v u Q I r (k _ _ _ _ q)
theorem aCY{i:Nat}{x:Str}(hN:X.N.Nodup)(hi:X.N[i]?=aj x)(hx:Loc X.env.scope x)(hf:X.fn x=ak∨X.env.scope.names.lookup x=aj .local):PG3 X (.Name x pos) (nO i) :=
 PG.imp (ab0 hN hi hx hf) λv σ H Q h=>by
 obtain⟨ρ,d,R,s,r,q,k⟩:=h;exact k _ _ (s.set r i) q
structure avN(X:Cx)(e:jf)(i:Nat):Prop where
 ex:∃x pos,e=.Name x pos/\X.N[i]?=aj x/\Loc X.env.scope x/\(X.fn x=ak∨X.env.scope.names.lookup x=aj .local)
noncomputable def aCZ:List Nat->TGs
 |[]=>aGY
 |i::is=>az6 (aiD i) (aCZ is)
theorem abL:∀{is:List Nat}{vs:List V}{σ:St}{H:Hp}{Q:St->Hp->Prop},vs.length=is.length->Q (aa3 σ is vs) H->aCZ is vs σ H Q
 |[],[],_,_,_,_,q=>⟨rfl,q⟩
 |[],_::_,_,_,_,h,_=>by simp at h
 |_::_,[],_,_,_,h,_=>by simp at h
 |i::is,v::vs,σ,H,Q,h,q=>⟨v,vs,rfl,abL (is:=is) (by simpa using h) q⟩
theorem a1N(hN:X.N.Nodup):∀{es:List jf}{is:List Nat},Two (avN X) es is->PGs X es (aCZ is)/\(a0e es X.env).length=is.length/\(a0e es X.env).findIdx? (·.1)=aq
 |_,_,.nil=>⟨au9,rfl,rfl⟩
 |_,_,.cons (a:=e) (b:=i) h r=>by
  obtain⟨x,pos,rfl,h1,h2,h3⟩:=h.ex;obtain⟨a1,a2,a3⟩:=a1N hN r;refine⟨anA (ab0 hN h1 h2 h3) a1 rfl,?_,?_⟩
  .show(a0e _ X.env).length+1=_;rw[a2];rfl
  .show((ao,assign (.Name x pos) X.env)::a0e _ X.env).findIdx? (·.1)=aq;rw[List.findIdx?_cons];simp[a3]
theorem aIX{k:Nat}(hN:X.N.Nodup)(hc:X.calm=ak)(h:Two (avN X) es is):PG3 X (.Tuple es k pos) (a2S is):=by
 obtain⟨a1,a2,a3⟩:=a1N hN h;refine PG.imp (anB hc a1 a2 a3) λv σ H Q h=>?_;obtain⟨ρ,d,R,s,r,q,k⟩:=h;cases r with
 |@tup a vs ds hq rv =>
  have q':ds.length=is.length/\R (a2R ρ is ds):=q;exact⟨a,vs,rfl,hq,by rw[←rv.length];exact q'.1,abL (by rw[←rv.length];exact q'.1) (k _ _ (SR.sets rv s) q'.2)⟩
 |_=>exact False.elim q
theorem aa4:∀(xs:List Str)(vs done:List V)(σ:St),vs.length=xs.length->aa3 (done.map aj++nn xs σ) (List.range' done.length xs.length) vs=(done++vs).map aj++σ
 |[],[],done,σ,_=>by simp[aa3,nn]
 |[],_::_,_,_,h=>by simp at h
 |_::_,[],_,_,h=>by simp at h
 |x::xs,v::vs,done,σ,h=>by
  have ih:=aa4 xs vs (done++[v]) σ (by simpa using h)
  have e1:(done.map aj++nn (x::xs) σ).set done.length (aj v)=(done++[v]).map aj++nn xs σ:=by
   simp[nn,List.set_append]
  show aa3 ((done.map aj++nn (x::xs) σ).set done.length (aj v)) (List.range' (done.length+1) xs.length) vs=_;rw[e1];have e2:(done++[v]).length=done.length+1:=by simp
  rw[e2]at ih;rw[ih];simp
theorem aD0{xs:List Str}{k:Nat}(c:rT X xs scope)(hnd:X.N.Nodup)(hc:X.calm=ak)(hes:Two (λe x=>∃p,e=jf.Name x p) es xs):aoO (j7 X xs scope C s H fp pins) (.Tuple es k pos) xs (aoS xs.length) σ:=by
 intro uG s' H' v u d ds I r rd e;obtain⟨rfl,hl⟩:=aiZ e
 have nms:∀(es':List jf)(ys done:List Str),Two (λe x=>∃p,e=jf.Name x p) es' ys->xs=done++ys->Two (avN (j7 X xs scope C s H fp pins)) es' (List.range' done.length ys.length):=by
  intro es' ys
  induction ys generalizing es' with
  |nil=>intro done t _;cases t;exact .nil
  |cons y ys ih =>
   intro done t e;cases t with
   |cons h t =>
    obtain⟨p,rfl⟩:=h;have z:=ih _ (done++[y]) t (by simp[e]);have e2:(done++[y]).length=done.length+1:=by simp
    rw[e2]at z;refine .cons ⟨y,p,rfl,?_,.inl (a0m (c.var y (by simp[e]))),.inr (a0m (c.var y (by simp[e])))⟩ z;show(xs++X.N)[done.length]?=aj y;rw[e];simp
 obtain⟨a1,a2,a3⟩:=a1N (X:=j7 X xs scope C s H fp pins) (agZ c hnd) (nms es xs [] hes rfl);cases rd with
 |@tup a vs _ hq rv =>
  have lv:vs.length=xs.length:=by rw[←rv.length];exact hl
  have pgt:=anB (X:=j7 X xs scope C s H fp pins) (k:=k) (pos:=pos) (show(j7 X xs scope C s H fp pins).calm=ak from hc) a1 a2 a3;refine lg (pgt uG s' (nn xs σ) H' (.ref a) u (λσ' H2=>σ'=vs.map aj++σ/\H2=H') I r ⟨a,vs,rfl,hq,by simpa using lv,abL (by simpa using lv) ⟨?_,rfl⟩⟩) (λ_ s2 ⟨σ2,H2,I2,e2,e3⟩=>?_) λ_ _ z=>z
  .have:=aa4 xs vs [] σ lv;simpa using this
  .subst e2;subst e3;exact⟨vs,rv,I2⟩
def zQ(K:Fg)(src:Src)(J:It):Prop:=∀H2 G2,HR K H2 G2->src.ok G2 ->
 (∀i,i<src.items.length->J.go i H2)/\(∀i v H',i<src.items.length->J.yld i H2 v H'->Same H2 H'/\∃d,src.items[i]?=aj d/\RD K H' d v)/\J.stop src.items.length H2
noncomputable def aO6(K:Fg)(t:TI3):TI:=λσ H Q=>∃ρ G R,SR K H ρ σ/\HR K H G/\t ρ G R/\∀src J H' G',Ts H H'->HR K H' G'->zQ K src J->R src G'->Q J H'
abbrev PIS(X:Cx)(tg iter:jf)(t:TI3):Prop:=PI X tg iter (aO6 X.K t)
noncomputable def abM(te:cB):TI3:=λρ G R=>te ρ G λx G1=>match x with
 |.ref p=>(match aM G1 p with
  |some xs=>R (.lst p xs) G1
  |none=>False)
 |.str z=>R (.yZ (signs z)) G1
 |.tup xs=>xs.all scD=ak/\∀a,(G1 a=aq∨G1 a=aj (.tpl xs))->R (.tpl a xs) (aL G1 a (.tpl xs))
 |_=>False
theorem aIY{K:Fg}(h:scD d=ak)(r:RD K H d v)(r':RD K H d' v):d'=d:=by
 cases r with
 |non=>cases r';rfl
 |bl b=>cases r';rfl
 |int i=>cases r';rfl
 |str x=>cases r';rfl
 |_=>exact Bool.noConfusion (show ao=ak from h)
theorem aoU{K:Fg}:∀{ds ds':List D}{vs:List V},ds.all scD=ak->bQ K H ds vs->bQ K H ds' vs->ds'=ds
 |_,_,_,_,.nil,.nil=>rfl
 |d::ds,d'::ds',_,h,.cons r rr,.cons r' rr'=>by
  rw[wk,bw]at h;rw[aIY h.1 r r',aoU h.2 rr rr']
theorem aoV(I:Inv X pins σ H s)(g:HR X.K H G)(hq:oH X.K H a xs)(e:G a=aj o):∃ds,o=.tpl ds/\bQ X.K H ds xs:=by
 have no:∀u,H a=aj u->(∀ys,u≠.tup ys)->(∀ob ys,u≠.gK ob (.tup ys))->False:=λu hu h1 h2=>by
  rcases hq with(q|⟨ob,q⟩)|⟨ob,_,_,q,_⟩
  .rw[hu]at q;exact h1 _ (jk.inj q)
  .rw[hu]at q;exact h2 _ _ (jk.inj q)
  .have:=oM I a ob q;rw[hu]at this;cases this
 have z:=g a o e;cases o with
 |lst ds=>obtain⟨_,q,_⟩:=z;exact(no _ q (λ_ w=>nomatch w) (λ_ _ w=>nomatch w)).elim
 |rol ds =>
  obtain⟨_,q,_⟩:=z;obtain⟨_,_,⟨o1,n1,e1,c1,_⟩,_⟩:=I.list q;obtain⟨_,_,⟨o2,e2,c2,_⟩,_⟩:=I.tuple hq;rw[e1]at e2;cases e2;rw[c1]at c2;exact absurd c2 (by decide)
 |lF t kvs=>rcases z with⟨_,_,q,_⟩|⟨_,_,q,_⟩<;>exact(no _ q (λ_ w=>nomatch w) (λ_ _ w=>nomatch w)).elim
 |ins C fs=>obtain⟨_,_,q,_⟩:=z;exact(no _ q (λ_ w=>nomatch w) (λ_ _ w=>nomatch w)).elim
 |exn C=>obtain⟨_,_,q,_⟩:=z;exact(no _ q (λ_ w=>nomatch w) (λ_ _ w=>nomatch w)).elim
 |rdc ob t kvs=>rcases z with⟨_,_,q,_⟩|⟨_,_,q,_⟩<;>exact(no _ q (λ_ w=>nomatch w) (λ_ _ w=>nomatch w)).elim
 |tpl ds=>obtain⟨ys,q,r⟩:=z;exact⟨ds,rfl,by rw[←I.wG q hq];exact r⟩
 |zJ kvs=>obtain⟨_,q,e⟩:=z;exact(no _ q (λ_ w=>by rcases e with⟨_,rfl⟩|⟨_,_,_,rfl,_⟩<;>cases w) (λ_ _ w=>by rcases e with⟨_,rfl⟩|⟨_,_,_,rfl,_⟩<;>cases w)).elim
 |tab q p=>obtain⟨_,q,_⟩:=z;exact(no _ q (λ_ w=>nomatch w) (λ_ _ w=>nomatch w)).elim
 |clo c d=>obtain⟨_,_,_,_,_,_,_,_,q,_⟩:=z;exact(no _ q (λ_ w=>nomatch w) (λ_ _ w=>nomatch w)).elim
theorem aj0{ds:List D}(I:Inv X pins σ H s)(g:HR X.K H G)(hq:oH X.K H a xs)(rv:bQ X.K H ds xs)(sc:ds.all scD=ak) :
  (G a=aq∨G a=aj (.tpl ds))/\HR X.K H (aL G a (.tpl ds)):=by
 refine⟨?_,λb o e=>?_⟩
 .cases e:G a with
  |none=>exact .inl rfl
  |some o=>obtain⟨ds',rfl,r⟩:=aoV I g hq e;exact .inr (by rw[aoU sc rv r])
 .by_cases hb:b=a
  .subst hb;rw[aH]at e;cases e;exact⟨xs,hq,rv⟩
  .rw[bC hb]at e;exact g b o e
theorem aoW{K:Fg}:zQ K (.tpl p xs) (Itt K p):=λH2 G2 g ok=>by
 obtain⟨vs,hq,rv⟩:=g p _ ok;exact adS hq rv H2 G2 (.refl _) g trivial
theorem alC{K:Fg}:zQ K (.lst p xs) (Itl K p):=λH2 G2 g ok=>aa1 (H1:=H2) H2 G2 (.refl _) g ok
theorem adV{K:Fg}:zQ K (.yZ (signs z)) (Its z):=λH2 G2 g ok=>a5Y (H1:=H2) H2 G2 (.refl _) g ok
theorem aoX{K:Fg}:zQ K (.yZ ((jy n).map λ(i:Nat)=>.int (lo+(i:Int)))) (Itr lo n):=λH2 G2 g ok=>adT (H1:=H2) H2 G2 (.refl _) g ok
set_option tactic.hygienic true in
theorem aD1(hl:cF X l te):PIS X tg l (abM te):=by
 intro pins s σ H R I h _tk;obtain⟨ρ,G,R3,sr,g,q,k⟩:=h
 refine cL (hl pins s σ H (λv H1=>Ts H H1/\∃x G1,RD X.K H1 x v/\HR X.K H1 G1/\(match x with
  |.ref p=>(match aM G1 p with
   |some xs=>R3 (.lst p xs) G1
   |none=>False)
  |.str z=>R3 (.yZ (signs z)) G1
  |.tup xs=>xs.all scD=ak/\∀a,(G1 a=aq∨G1 a=aj (.tpl xs))->R3 (.tpl a xs) (aL G1 a (.tpl xs))
  |_=>False)) I ⟨ρ,G,_,sr,g,q,λv H1 x G1 t1 r g1 q1=>⟨t1,x,G1,r,g1,q1⟩⟩) λv s1 ⟨x,H1,I1,r1,t1,d,G1,rd,g1,q1⟩=>?_
 cases rd with
 |ref a =>
  have q1':(match aM G1 a with
   |some xs=>R3 (.lst a xs) G1
   |none=>False):=q1
  split at q1'
  .rename_i xs e;cases r1;obtain⟨vs,hq,rv⟩:=bM g1 e;obtain⟨its,rv',p,hz⟩:=I1.list hq;refine wpAny_pyIter_list p.isList ?_;refine⟨s1.heap.objs.size,[s1.heap.objs.size],_,_,H1,rfl,I1.kept (t':=s1.toks) λb o e=>cg _ e,a9J a _,⟨_,gV _ rfl,rfl,rfl⟩,λb hb=>?_,k _ _ H1 G1 t1 g1 alC q1'⟩;have e:b=s1.heap.objs.size:=by simpa using hb
   subst e;exact I1.uH (dw _) (I1.hok.fresh (dw _))
  .exact q1'.elim
 |str z =>
  obtain⟨t,rfl⟩:=r1;cases ha:z.cps.all (· <128)
  .refine wpAny_pyIter_wide ha ?_;refine⟨s1.heap.objs.size,[s1.heap.objs.size],_,_,H1,rfl,I1.kept (t':=s1.toks) λb o e=>cg _ e,aa0 _ z t,?_,λb hb=>?_,k _ _ H1 G1 t1 g1 adV q1⟩
   .rw[Nat.zero_min];exact⟨_,gV _ rfl,rfl,rfl⟩
   .have e:b=s1.heap.objs.size:=by simpa using hb
    subst e;exact I1.uH (dw _) (I1.hok.fresh (dw _))
  .refine wpAny_pyIter_ascii ha ?_;refine⟨s1.heap.objs.size,[s1.heap.objs.size],_,_,H1,rfl,I1.kept (t':=s1.toks) λb o e=>cg _ e,a9Z _ z t,?_,λb hb=>?_,k _ _ H1 G1 t1 g1 adV q1⟩
   .rw[Nat.zero_min];exact⟨_,gV _ rfl,rfl,rfl⟩
   .have e:b=s1.heap.objs.size:=by simpa using hb
    subst e;exact I1.uH (dw _) (I1.hok.fresh (dw _))
 |@tup a vs xs hq rv =>
  cases r1;obtain⟨its,rv',p,hz⟩:=I1.tuple hq;obtain⟨sc,q1⟩:=q1;obtain⟨hG,g2⟩:=aj0 I1 g1 hq rv sc;refine a0f (show s1.heap.IsTuple a its.toArray from p) ?_;refine⟨s1.heap.objs.size,[s1.heap.objs.size],_,_,H1,rfl,I1.kept (t':=s1.toks) λb o e=>cg _ e,a5C a _,⟨_,gV _ rfl,rfl,rfl⟩,λb hb=>?_,k _ _ H1 _ t1 g2 aoW (q1 a hG)⟩;have e:b=s1.heap.objs.size:=by simpa using hb
  subst e;exact I1.uH (dw _) (I1.hok.fresh (dw _))
 |_=>exact q1.elim
theorem avP{p:Pos}(hg:Gl X "range")(hm:X.mg "range"=aq)(ha:PA3 X [a] ta)(hs:je [a] X.env=[(ao,eval a X.env)]):PIS X tg (.Call (.Name "range" p) [a] [] pos) (uT ta) :=
 PI.imp (a9K hg hm ha hs) λσ H Q h=>by
 obtain⟨ρ,G,R,s,g,q,k⟩:=h;refine⟨ρ,G,_,s,g,q,λvs H1 ds G1 t1 r g1 h1=>?_⟩;cases r with
 |nil=>exact h1.elim
 |cons r rr =>
  cases rr with
  |cons _ _=>cases r<;>exact False.elim h1
  |nil =>
   cases r with
   |int j =>
    obtain⟨l1,l2,h1⟩:=h1;refine⟨j,rfl,l1,l2,k _ _ H1 G1 t1 g1 ?_ h1⟩;unfold zO;rw[show(j - 0).toNat=j.toNat by omega];exact aoX
   |_=>exact False.elim h1
noncomputable def jT(ti:TI3)(tg:TG3)(tb:bI):bI:=λF ρ G=>ti ρ G λsrc G1=>∃P:Nat->aN->Gp->Prop,P 0 ρ G1/\(∀k ρ G,k<=src.items.length->P k ρ G->src.ok G) /\
 (∀k d ρ G,src.items[k]?=aj d->P k ρ G->tg d ρ λρ2=>tb {F with nx:=P (k+1),ct:=P (k+1),bk:=F.nx} ρ2 G)/\∀ρ G,P src.items.length ρ G->F.nx ρ G
theorem aD2{ti:TI3}{tg:TG3}(hp:PassesOwn (fj X.prog X.w) X.A X.env X.xe)(hi:PIS X tgt iter ti)(hg:PG3 X tgt tg)(hb:xE X body tb)
  (hs:∀x,a0l iter X.env x=pure x):PS3 X (.For tgt iter body [] pos) (jT ti tg tb):=PS.imp (anD hp hi hg hb hs) λF σ H h=>by
 obtain⟨ρ,G,E,s,g,q,d⟩:=h
 refine⟨ρ,G,λsrc G1=>∃P:Nat->aN->Gp->Prop,P 0 ρ G1/\(∀k ρ G,k<=src.items.length->P k ρ G->src.ok G) /\
  (∀k d ρ G,src.items[k]?=aj d->P k ρ G->tg d ρ λρ2=>tb {E with nx:=P (k+1),ct:=P (k+1),bk:=E.nx} ρ2 G)/\∀ρ G,P src.items.length ρ G->E.nx ρ G,s,g,q,λsrc J H1 G1 t1 g1 sj ⟨P,p0,pok,pst,pend⟩=>?_⟩
 refine adK (K:=X.K) (n:=src.items.length) (λk σ2 H2=>∃ρ' G',SR X.K H2 ρ' σ2/\HR X.K H2 G'/\P k ρ' G') ⟨ρ,G1,s.mono t1,g1,p0⟩ (λσ2 H2 ⟨ρ',G',s2,g2,p⟩=>?_) (λk σ2 H2 hk ⟨ρ',G',s2,g2,p⟩=>?_) (λk y σ2 H2 H3 hk ⟨ρ',G',s2,g2,p⟩ hy=>?_)
  (λσ2 H2 ⟨ρ',G',s2,g2,p⟩=>d.nx ρ' G' σ2 H2 s2 g2 (pend ρ' G' p))
 .exact(sj H2 G' g2 (pok _ ρ' G' (dw _) p)).2.2
 .exact(sj H2 G' g2 (pok _ ρ' G' (ur hk) p)).1 k hk
 .obtain⟨sm,dk,e1,e2⟩:=(sj H2 G' g2 (pok _ ρ' G' (ur hk) p)).2.1 k y H3 hk hy;refine⟨ρ',dk,_,s2.mono (.same sm),e2,pst k dk ρ' G' e1 p,λρ2 σ3 s3 q3=>?_⟩;exact⟨ρ2,G',_,s3,g2.same sm,q3,⟨λρ4 G4 σ4 H4 s4 g4 q4=>⟨ρ4,G4,s4,g4,q4⟩,d.rt,d.nx,λρ4 G4 σ4 H4 s4 g4 q4=>⟨ρ4,G4,s4,g4,q4⟩⟩⟩
end
end
section
noncomputable def aO7:D->Bool
 |.bl _=>ak
 |_=>ao
noncomputable def aO8:D->Bool
 |.bl b=>b
 |_=>ao
noncomputable def aQ6:List D->Gp->fL->Prop:=λxs G R=>match xs with
 |[.ref q]=>(match aM G q with
  |some ds=>ds.all aO7=ak/\R (.bl (ds.all aO8)) G
  |none=>False)
 |_=>False
section
variable{X:Cx}
def on2(xs:List D)(f:Int->Int->Prop):Prop:=match xs with
 |[.int i,.int j]=>f i j
 |_=>False
noncomputable def azQ:List D->Gp->fL->Prop:=λxs G R=>on2 xs λi j=>R (.int (if j<i then j else i)) G
noncomputable def azR:List D->Gp->fL->Prop:=λxs G R=>on2 xs λi j=>R (.int (if i<j then j else i)) G
set_option tactic.hygienic true in
theorem adW{K:Fg}(r:bQ K H xs vs)(h:on2 xs f):∃i j,xs=[.int i,.int j]/\vs=[.int i,.int j]/\f i j:=by
 unfold on2 at h;split at h
 .rename_i i j;cases r with
  |cons r1 r =>
  cases r with
  |cons r2 r =>
  cases r;cases r1;cases r2;exact⟨i,j,rfl,rfl,h⟩
 .exact h.elim
theorem aIZ(hc:X.calm=ak):cD X (.builtin "min") azQ:=cD.of (akQ hc) λH xs vs G R Q rx g q k=>by
 obtain⟨i,j,rfl,rfl,q'⟩:=adW (f:=λi j=>R (.int (if j<i then j else i)) G) rx q;exact⟨i,j,rfl,λ_=>k _ H _ G (.refl H) (.int _) g q'⟩
theorem aJ0(hc:X.calm=ak):cD X (.builtin "max") azR:=cD.of (akP hc) λH xs vs G R Q rx g q k=>by
 obtain⟨i,j,rfl,rfl,q'⟩:=adW (f:=λi j=>R (.int (if i<j then j else i)) G) rx q;exact⟨i,j,rfl,λ_=>k _ H _ G (.refl H) (.int _) g q'⟩
end
end
variable{zs:List (Int×Tok)}{ns:List Int}
section
section
end
theorem ints_of{K:Fg}:∀{ns:List Int}{vs:List V}{us:List bh},bQ K H (ns.map D.int) vs->Vals vs us->∃ys:List (Int×Tok),us=ys.map (λp=>bh.int p.1 p.2)/\ys.map (·.1)=ns
 |[],_,_,r,v=>by cases r;cases v;exact⟨[],rfl,rfl⟩
 |n::ns,_,_,r,v=>by
  cases r with
  |cons h r =>
   cases h with
   |int i =>
    cases v with
    |cons hu v =>
     obtain⟨t,rfl⟩:=hu;obtain⟨ys,e1,e2⟩:=ints_of r v;exact⟨(n,t)::ys,by rw[e1];rfl,by rw[qd,e2]⟩
def alD(xs:List D)(G:Gp)(P:List D->Prop)(O:Prop):Prop:=match xs with
 |[.ref q]=>(match aM G q with
  |some ds=>P ds
  |none=>False)
 |_=>O
noncomputable def adX:List D->Gp->fL->Prop:=λxs G R=>alD xs G (λds=>∃ns:List Int,ds=ns.map D.int/\R (.int ns.sum) G) False
variable{s:cj}
section
variable{X:Cx}
set_option tactic.hygienic true in
theorem aD3(I:Inv X pins σ H s)(rx:bQ X.K H xs vs)(rv:Vals vs us)(g:HR X.K H G)
  (h:alD xs G P O):(∃a ds ys its,us=[.ref a]/\bQ X.K H ds ys/\Vals ys its/\s.heap.IsList a its.toArray/\P ds)∨O:=by
 cases rx with
 |nil=>exact .inr h
 |cons r1 rr =>
  cases rr with
  |cons _ _=>cases r1<;>exact .inr h
  |nil =>
   cases r1 with
   |ref a =>
    obtain⟨u,rfl,ru⟩:=vals1 rv;cases ru
    have q':(match aM G a with
     |some ds=>P ds
     |none=>False):=h
    split at q'
    .rename_i ds e1;obtain⟨ys,hq,r1⟩:=bM g e1;obtain⟨its,rv',p,hz⟩:=I.list hq;exact .inl ⟨a,ds,ys,its,rfl,r1,rv',p.isList,q'⟩
    .exact q'.elim
   |_=>exact .inr h
theorem int_list(p:s.heap.IsList a (zs.map λp=>bh.int p.1 p.2).toArray):s.heap.IsList a (intItems zs.toArray):=by
 have:intItems zs.toArray=(zs.map λp=>bh.int p.1 p.2).toArray:=by simp[intItems]
 rw[this];exact p
theorem aJ1(hc:X.calm=ak):cD X (.builtin "sum") adX:=by
 intro pins s σ H xs vs us G R Q I rx rv g q k;rcases aD3 I rx rv g q with⟨a,ds,ys,its,rfl,r1,rv',p,ns,rfl,q'⟩|z
 .obtain⟨zs,rfl,e2⟩:=ints_of r1 rv';refine sum_intListG (I.ok.hd hc) (int_list p) λh' tk t' kk=>?_
  have e3:preSum (numAt zs.toArray) zs.toArray.size=ns.sum:=by
   rw[preSum_eq,List.take_of_length_le (by simp)];rw[←e2]
  rw[e3];exact⟨.int _,H,I.kept kk,⟨t',rfl⟩,k _ H _ G (.refl H) (.int _) g q'⟩
 .exact z.elim
noncomputable def a65:List D->Gp->fL->Prop:=λxs G R=>alD xs G (λds=>∃ns:List Int,ds=ns.map D.int/\ns≠[]/\∀M,M∈ns->(∀a∈ns,a<=M)->R (.int M) G) (azR xs G R)
noncomputable def a1O:List D->Gp->fL->Prop:=λxs G R=>alD xs G (λds=>∃ns:List Int,ds=ns.map D.int/\ns≠[]/\∀M,M∈ns->(∀a∈ns,M<=a)->R (.int M) G) (azQ xs G R)
theorem ah0(e2:zs.map (·.1)=ns)(h:j<zs.toArray.size):numAt zs.toArray j∈ns:=by
 rw[numAt_eq,←e2];exact getD_mem (by simpa using h)
theorem ah1(e2:zs.map (·.1)=ns){a:Int}(h:a∈ns):∃j,j<zs.toArray.size/\numAt zs.toArray j=a:=by
 rw[←e2]at h;obtain⟨j,hj,rfl⟩:=mem_getD h;exact⟨j,by simpa using hj,by rw[numAt_eq]⟩
theorem aD4(hc:X.calm=ak):cD X (.builtin "max") a65:=by
 intro pins s σ H xs vs us G R Q I rx rv g q k;rcases aD3 I rx rv g q with⟨a,ds,ys,its,rfl,r1,rv',p,ns,rfl,hne,q'⟩|z
 .obtain⟨zs,rfl,e2⟩:=ints_of r1 rv'
  have hsz:0<zs.toArray.size:=by
   cases zs with
   |nil=>exact absurd e2.symm hne
   |cons _ _=>simp
  refine max_intList (I.ok.hd hc) (int_list p) hsz λv h' tk hv kk=>?_;obtain⟨t,rfl⟩:=intItems_at hv;obtain⟨h1,h2⟩:=argBest_gt (numAt zs.toArray) (zs.toArray.size - 1);refine⟨.int _,H,I.kept kk,⟨t,rfl⟩,k _ H _ G (.refl H) (.int _) g (q' _ (ah0 e2 (by omega)) λa ha=>?_)⟩;obtain⟨j,hj,rfl⟩:=ah1 e2 ha;exact h2 j (by omega)
 .exact aJ0 hc pins s σ H _ vs us G R Q I rx rv g z k
theorem aD5(hc:X.calm=ak):cD X (.builtin "min") a1O:=by
 intro pins s σ H xs vs us G R Q I rx rv g q k;rcases aD3 I rx rv g q with⟨a,ds,ys,its,rfl,r1,rv',p,ns,rfl,hne,q'⟩|z
 .obtain⟨zs,rfl,e2⟩:=ints_of r1 rv'
  have hsz:0<zs.toArray.size:=by
   cases zs with
   |nil=>exact absurd e2.symm hne
   |cons _ _=>simp
  refine min_intList (I.ok.hd hc) (int_list p) hsz λv h' tk hv kk=>?_;obtain⟨t,rfl⟩:=intItems_at hv;obtain⟨h1,h2⟩:=argBest_lt (numAt zs.toArray) (zs.toArray.size - 1);refine⟨.int _,H,I.kept kk,⟨t,rfl⟩,k _ H _ G (.refl H) (.int _) g (q' _ (ah0 e2 (by omega)) λa ha=>?_)⟩;obtain⟨j,hj,rfl⟩:=ah1 e2 ha;exact h2 j (by omega)
 .exact aIZ hc pins s σ H _ vs us G R Q I rx rv g z k
end
end
section
noncomputable def ok2(G:Gp)(x y:D):Bool:=match x,y with
 |.ref p,.ref q=>(match aM G p,aM G q with
  |some xs,aj ys=>xs.all (aV 17)&&ys.all (aV 17)
  |_,_=>ao)
 |x,y=>aV 18 x&&aV 18 y
noncomputable def eq2(G:Gp)(x y:D):Bool:=match x,y with
 |.ref p,.ref q=>(match aM G p,aM G q with
  |some xs,aj ys=>pG xs ys
  |_,_=>ao)
 |x,y=>eqP x y
noncomputable def a8T(G:Gp):List D->List D->Bool
 |x::xs,y::ys=>ok2 G x y&&a8T G xs ys
 |_,_=>ak
noncomputable def xF(G:Gp):List D->List D->Bool
 |[],[]=>ak
 |x::xs,y::ys=>eq2 G x y&&xF G xs ys
 |_,_=>ao
noncomputable def a8U(f:D->D->Bool)(xs ys:List D)(j:Nat):Bool:=match xs[j]?,ys[j]? with
 |some a,aj b=>f a b
 |_,_=>ao
theorem rW(G:Gp):∀(xs ys:List D),xF G xs ys=((jy (min xs.length ys.length)).all (a8U (eq2 G) xs ys)&&xs.length==ys.length)
 |[],[]=>rfl
 |[],y::ys=>by simp[xF]
 |x::xs,[]=>by simp[xF]
 |x::xs,y::ys=>by
  have ih:=rW G xs ys;have e:min (x::xs).length (y::ys).length=min xs.length ys.length+1:=by simp only[ug];omega
  rw[xF,ih,e,uL];have e0:a8U (eq2 G) (x::xs) (y::ys) 0=eq2 G x y:=rfl
  have e1:(λj=>a8U (eq2 G) (x::xs) (y::ys) (j+1))=a8U (eq2 G) xs ys:=by
   funext j;simp[a8U]
  have e2:((x::xs).length==(y::ys).length)=(xs.length==ys.length):=by
   simp only[ug];by_cases h:xs.length=ys.length
   .simp[h]
   .have h':¬ (xs.length+1=ys.length+1):=by omega
    simp[h,h']
  rw[e0,e1,e2,Bool.and_assoc]
theorem abN:∀{xs ys:List D}{j:Nat}{x y:D},a8T G xs ys=ak->xs[j]?=aj x->ys[j]?=aj y->ok2 G x y=ak
 |[],_,_,_,_,_,h,_=>by simp at h
 |_::_,[],_,_,_,_,_,h=>by simp at h
 |a::xs,b::ys,0,x,y,h,e1,e2=>by
  rw[a8T,bw]at h;simp at e1 e2;subst e1;subst e2;exact h.1
 |a::xs,b::ys,j+1,x,y,h,e1,e2=>by
  rw[a8T,bw]at h;exact abN h.2 (by simpa using e1) (by simpa using e2)
variable{x:D}
section
variable{X:Cx}
theorem aj1{A:iw}{K:Fg}{us ws:List bh}(rx:bQ K H xs vx)(ry:bQ K H ys vy)(vx':Vals vx us)(vy':Vals vy ws)
  (ih:∀(j:Nat)(x y:D),xs[j]?=aj x->ys[j]?=aj y->∀(v w:V)(u t:bh),RD K H x v->RD K H y w->RelV v u->RelV w t->SeqAt.EqAt A s u t (f x y)) :
  ∀j (h1:j<us.toArray.size) (h2:j<ws.toArray.size),SeqAt.EqAt A s us.toArray[j] ws.toArray[j] (a8U f xs ys j):=by
 intro j h1 h2;have e1:us[j]?=aj us.toArray[j]:=by simp[gw (show j<us.length by simpa using h1)]
 have e2:ws[j]?=aj ws.toArray[j]:=by simp[gw (show j<ws.length by simpa using h2)]
 obtain⟨d,x,f1,f2,f3⟩:=Vals.adQ rx vx' e1;obtain⟨d',y,g1,g2,g3⟩:=Vals.adQ ry vy' e2;have e:a8U f xs ys j=f d d':=by simp[a8U,f1,g1]
 rw[e];exact ih j d d' f1 g1 x y _ _ f2 g2 f3 g3
set_option tactic.hygienic true in
theorem aoY(I:Inv X pins σ H s)(g:HR X.K H G){A:iw}(hu:A.units+20<kh)(h:ok2 G x y=ak)(rx:RD X.K H x vx)(ry:RD X.K H y vy)(ru:RelV vx u)(rv:RelV vy v):SeqAt.EqAt A s u v (eq2 G x y):=by
 unfold ok2 at h;unfold eq2;split at h
 .rename_i p q;split at h
  .rename_i xs ys e1 e2;rw[bw]at h;cases rx;cases ry;cases ru;cases rv;obtain⟨v1,h1,r1⟩:=bM g e1;obtain⟨v2,h2,r2⟩:=bM g e2;by_cases hpq:p=q
   .subst hpq;rw[e1]at e2;cases e2;rw[wI (n:=17) λx m=>jq.mp h.1 x m];exact SeqAt.EqAt.same _
   .exact SeqAt.EqAt.of_refs hpq (aIL I 17 A h1 h2 r1 r2 (by omega) h.1 h.2)
  .cases h
 .rename_i hn;rw[bw]at h;exact yH I 18 A x y vx vy u v (by omega) h.1 h.2 rx ry ru rv
def avQ(G:Gp)(x y:D)(k:Bool->Prop):Prop:=match x,y with
 |.tup xs,.tup ys=>a8T G xs ys=ak/\k (xF G xs ys)
 |.ref a,.ref b=>(match aM G a,aM G b with
  |some xs,aj ys=>a8T G xs ys=ak/\k (xF G xs ys)
  |_,_=>False)
 |_,_=>False
noncomputable def aj2:R3:=λx y G R=>avQ G x y λb=>R (.bl b) G
noncomputable def zR:R3:=λx y G R=>avQ G x y λb=>R (.bl (!b)) G
set_option tactic.hygienic true in
theorem adY(hu:X.A.units+64<kh){neg:Bool}(hop:op=if neg then .NotEq else .Eq){k:Bool->Prop}{Q:VK}(I:Inv X pins σ H s)(rx:RD X.K H x vx)(ry:RD X.K H y vy)(ru:RelV vx u)(rv:RelV vy v)(g:HR X.K H G)
  (h:avQ G x y k)(hk:∀b,k b->EP X pins σ Q (.bool (neg ^^ b)) s):cu (fj X.prog X.w) X.A (jg op u v) (EP X pins σ Q) X.xe s:=by
 have fin:∀{b:Bool},(if neg then SeqAt.RcNeAt X.A s u v (!b)else SeqAt.RcAt X.A s u v b)->k b->cu (fj X.prog X.w) X.A (jg op u v) (EP X pins σ Q) X.xe s:=λ{b} z kb=>by
  have e:=hk b kb;cases neg with
  |true =>
   subst hop;rw[Bool.true_xor]at e;exact z X.prog X.w X.xe _ e
  |false =>
   subst hop;rw[a2r]at e;exact z X.prog X.w X.xe _ e
 have hu0:X.A.units<kh:=by omega
 have hu1:X.A.in1.units+20<kh:=by
  show X.A.units+1+20<kh;omega
 unfold avQ at h;split at h
 .rename_i ds es;obtain⟨ok,kk⟩:=h;cases rx with
  |@tup a1 xs1 _ h1 r1 =>
   cases ry with
   |@tup a2 xs2 _ h2 r2 =>
    cases ru;cases rv;obtain⟨its,vv,px,_⟩:=I.tuple h1;obtain⟨jts,ww,py,_⟩:=I.tuple h2;have pts:=aj1 (f:=eq2 G) r1 r2 vv ww λj x y e1 e2 v w u t q1 q2 q3 q4=>aoY (A:=X.A.in1) I g hu1 (abN ok e1 e2) q1 q2 q3 q4
    have e:((jy (min its.toArray.size jts.toArray.size)).all (a8U (eq2 G) ds es)&&its.toArray.size==jts.toArray.size)=xF G ds es:=by
     rw[rW,dj,dj,←vv.length,←ww.length,←r1.length,←r2.length]
    refine fin (b:=xF G ds es) ?_ kk;cases neg with
    |true =>
     have z:=SeqAt.RcNeAt.tuples (show s.heap.IsTuple a1 its.toArray from px) (show s.heap.IsTuple a2 jts.toArray from py) hu0 pts;rw[e]at z;exact z
    |false =>
     have z:=SeqAt.RcAt.tuples (show s.heap.IsTuple a1 its.toArray from px) (show s.heap.IsTuple a2 jts.toArray from py) hu0 pts;rw[e]at z;exact z
 .rename_i a b;split at h
  .rename_i ds es e1 e2;obtain⟨ok,kk⟩:=h;cases rx;cases ry;cases ru;cases rv;obtain⟨v1,h1,r1⟩:=bM g e1;obtain⟨v2,h2,r2⟩:=bM g e2;obtain⟨its,vv,q1,_⟩:=I.list h1;obtain⟨jts,ww,q2,_⟩:=I.list h2;have p1:=q1.isList;have p2:=q2.isList;have pts:=aj1 (f:=eq2 G) r1 r2 vv ww λj x y e1 e2 v w u t q1 q2 q3 q4=>aoY (A:=X.A.in1) I g hu1 (abN ok e1 e2) q1 q2 q3 q4;have s1:its.toArray.size=ds.length:=by rw[dj,←vv.length,←r1.length]
   have s2:jts.toArray.size=es.length:=by rw[dj,←ww.length,←r2.length]
   refine fin (b:=xF G ds es) ?_ kk;by_cases hl:ds.length=es.length
   .have hsz:its.toArray.size=jts.toArray.size:=by rw[s1,s2];exact hl
    have e:(jy its.toArray.size).all (a8U (eq2 G) ds es)=xF G ds es:=by
     rw[rW,s1,hl];simp
    cases neg with
    |true =>
     have z:=SeqAt.RcNeAt.lists p1 p2 hsz hu0 pts;rw[e]at z;exact z
    |false =>
     have z:=SeqAt.RcAt.lists p1 p2 hsz hu0 pts;rw[e]at z;exact z
   .have hne:(its.toArray.size !=jts.toArray.size)=ak:=by rw[s1,s2];simpa using hl
    have e:xF G ds es=ao:=by
     rw[rW];have:(ds.length==es.length)=ao:=by simpa using hl
     rw[this,a1J]
    rw[e];cases neg with
    |true=>exact SeqAt.RcNeAt.lists_lengths p1 p2 hne hu0
    |false=>exact SeqAt.RcAt.lists_lengths p1 p2 hne hu0
  .exact h.elim
 .exact h.elim
theorem aJ3(hu:X.A.units+64<kh):lU X (jg .Eq) aj2:=a1K λpins s σ H x y vx vy u v G R Q I rx ry ru rv g q k =>
 adY (neg:=false) hu rfl I rx ry ru rv g q λb kb=>⟨.bl b,H,I,by rw[a2r];rfl,k _ H (.bl b) G (.refl H) (.bl b) g kb⟩
theorem aJ4(hu:X.A.units+64<kh):lU X (jg .NotEq) zR:=a1K λpins s σ H x y vx vy u v G R Q I rx ry ru rv g q k =>
 adY (neg:=true) hu rfl I rx ry ru rv g q λb kb=>⟨.bl (!b),H,I,by rw[Bool.true_xor];rfl,k _ H (.bl (!b)) G (.refl H) (.bl (!b)) g kb⟩
def a66(x:D)(G:Gp)(f:bx->List D->Prop):Prop:=match x with
 |.ref p=>(match G p with
  |some (.lst ds)=>f p ds
  |_=>False)
 |_=>False
set_option tactic.hygienic true in
theorem a67{K:Fg}(rx:RD K H x vx)(g:HR K H G)(h:a66 x G f):∃p ds xs,x=.ref p/\vx=.ref p/\G p=aj (.lst ds)/\H p=aj (.lst xs)/\bQ K H ds xs/\f p ds:=by
 unfold a66 at h;split at h
 .rename_i p;split at h
  .rename_i ds e;cases rx;obtain⟨xs,e1,r⟩:=g p _ e;exact⟨p,ds,xs,rfl,rfl,e,e1,r,h⟩
  .exact h.elim
 .exact h.elim
noncomputable def aJ5:RM3:=λx xs G R=>match xs with
 |[]=>a66 x G λp ds=>match ds[ds.length - 1]? with
  |some d=>R d (aL G p (.lst ds.dropLast))
  |none=>False
 |_=>False
noncomputable def zT:RM3:=λx xs G R=>match xs with
 |[]=>a66 x G λp _=>R .non (aL G p (.lst []))
 |_=>False
theorem zU{K:Fg}:∀{ds:List D}{xs:List V},bQ K H ds xs->bQ K H ds.dropLast xs.dropLast
 |_,_,.nil=>.nil
 |_,_,.cons h .nil=>.nil
 |_,_,.cons h (.cons h' r)=>.cons h (zU (.cons h' r))
set_option tactic.hygienic true in
theorem aQ7:a5X X "list.pop" aJ5:=a5X.of aBT λH x xs vx vs G R Q rx rs g q k=>by
 cases rs with
 |cons _ _=>exact False.elim q
 |nil =>
  obtain⟨p,ds,ys,rfl,rfl,e,e1,r,q'⟩:=a67 rx g q;split at q'
  .rename_i d ed;obtain⟨v,ev,rv⟩:=r.get ed;have hl:ds.length=ys.length:=r.length;refine⟨p,ys,v,rfl,rfl,e1,by rw[←hl];exact ev,λ_=>?_⟩;have tt:Ts H (upd H p (.lst ys.dropLast)):=.turn e1 (λ_ z=>nomatch z) (λ_ _ z=>nomatch z);exact k _ _ _ _ tt (rv.mono tt) (g.turn (u:=.lst ds.dropLast) tt ⟨_,aF,(zU r).mono tt⟩) q'
  .exact q'.elim
theorem aj3:a5X X "list.clear" zT:=a5X.of ao0 λH x xs vx vs G R Q rx rs g q k=>by
 cases rs with
 |cons _ _=>exact False.elim q
 |nil =>
  obtain⟨p,ds,ys,rfl,rfl,e,e1,r,q'⟩:=a67 rx g q;refine⟨p,ys,rfl,rfl,e1,λ_=>?_⟩;have tt:Ts H (upd H p (.lst [])):=.turn e1 (λ_ z=>nomatch z) (λ_ _ z=>nomatch z);exact k _ _ _ _ tt .non (g.turn (u:=.lst []) tt ⟨_,aF,.nil⟩) q'
end
end
section
variable{s:cj}
section
variable{X:Cx}{C:bx}{bmB bmN:List bh}{B Bn newId nid initId inN:String}{x:Str}{t:nH}
noncomputable def aoZ(C:bx)(t:nH):cB:=λρ G R=>t ρ G λds G1=>ds.length<=dg/\∀x,G1 x=aq->R (.ref x) (aL G1 x (.exn C))
theorem ap0{x:bx}(I:Inv X pins σ H s)(hm:a2q s.heap h' x (.ref C) us) :
  ∃o vs,H x=aq/\Inv X pins σ (upd H x (.gK o (.ext (xO C x)))) {s with heap:=h' }/\o.data=.fields vs/\vs[2]?=aj .none:=by
 obtain⟨t,e1,_,_⟩:=hm.there;have nxH:H x=aq:=adO I.hok hm.new;refine⟨{cls:=.ref C,data:=.fields #[.ref t,.none,.none,.none,.bool ao,.none]},#[.ref t,.none,.none,.none,.bool ao,.none],nxH,?_,rfl,rfl⟩;generalize ho:({cls:=.ref C,data:=.fields #[.ref t,.none,.none,.none,.bool ao,.none]}:Obj)=o at e1;have sn:Same H (upd H x (.gK o (.ext (xO C x)))):=bB nxH;have nst:∀b u,s.heap.get? b=aj u->b≠x:=λb u e z=>by subst z;rw[hm.new]at e;cases e
 refine I.call' (ch:=[]) (s':={s with heap:=h' }) rfl ⟨λb u e n _ _=>hm.keeps b u e,λb u e n _ _=>⟨u.slots,hm.keeps b u e⟩,λb u e n _=>by rw[aJ (nst b u e)];exact n,λb u e _=>⟨u,hm.keeps b u e⟩,λb xs z=>sn _ _ z,λb u v z=>sn _ _ z,λb ps z=>⟨#[],by rw[Array.append_empty];exact sn _ _ z⟩⟩ (λb u e=>?_) I.bare λb z=>absurd z (by simp);by_cases hb:b=x
 .subst hb;rw[aF]at e;cases e;exact⟨e1,⟨o,_,e1,by rw[←ho],by rw[←ho]⟩,⟨o,e1⟩,λh1 h2 ⟨o1,w1,e1,e2,e3⟩ k=>⟨o1,w1,k _ e1,e2,e3⟩⟩
 .rw[aJ hb]at e;exact((I.hok.kept hm.keeps) b u e).stay (λ_ _ _ z=>z) (λc z=>sn _ _ z) λc xs z=>sn _ _ z
theorem adZ{σ:St}{H:Hp}{us:List bh}{G:Gp}{R:fL}{Q:VK}(Fn:a0r Bn newId inN bmN)(hBn:bmB.contains (.type Bn)=ak)(FB:a0r B nid initId bmB)(hq:yt X.K C bmB newId=ak)(I:Inv X pins σ H s)(g:HR X.K H G)(hl:us.length<=dg)(q:∀x,G x=aq->R (.ref x) (aL G x (.exn C)))
  (k:∀v H' d G',Ts H H'->RD X.K H' d v->HR X.K H' G'->R d G'->Q v H'):cu (fj X.prog X.w) X.A (call (.ref C) us) (EP X pins σ Q) X.xe s:=by
 obtain⟨tl,N,nm,q',bs,hdct,sn,sub,ab,col,dd',k0,k1,k2,k3,k5,mN,hC,hN,hni,T⟩:=a4H I.mod.kin hq;obtain⟨h,g0,d0,t0,os0⟩:=s;refine wpAny_call_exc_subU (hrest:=hl) Fn hBn FB (T.keeps I.bk) (I.bk _ _ hC) (hN.keeps I.bk) hni λh' x hm=>?_;obtain⟨o,vs,nx,J,d1,d2⟩:=ap0 I hm;have sn:Same H (upd H x (.gK o (.ext (xO C x)))):=bB nx;exact⟨.ref x,_,J,rfl,k _ _ _ _ (.same sn) (.ref x) (g.put (u:=.exn C) nx ⟨o,vs,aF,d1,d2⟩) (q x (gP (K:=X.K) g nx (oM (X:=X) J)))⟩
theorem aJ6(Fn:a0r Bn newId inN bmN)(hBn:bmB.contains (.type Bn)=ak)(FB:a0r B nid initId bmB)(hg:Gl X x)(hm:X.mg x=aj (.ref C))(hq:yt X.K C bmB newId=ak)(ha:PA3 X (e::es) t)(hd:(x==("__debug__":Str))=ao)
  (he:je (e::es) X.env=(ao,eval e X.env)::je es X.env)(hpl:(yh cpos (je es X.env)).any (·.1)=ao):cF X (.Call (.Name x np) (e::es) [] cpos) (aoZ C t):=by
 intro pins s σ H Q I h _tk;obtain⟨ρ,G,R,sr,g,q,kk⟩:=h;obtain⟨tl,N,nm,q',bs,hdct,sn,sub,ab,col,dd',k0,k1,k2,k3,k5,mN,hC,hN,hni,T⟩:=a4H I.mod.kin hq;refine wpAny_Call_ofName (mH I hg hm ?_ hd);unfold callWith;have hA:=ha cpos pins s σ H (λvs H1=>Ts H H1/\∃ds G1,bQ X.K H1 ds vs/\HR X.K H1 G1/\ds.length<=dg/\∀x,G1 x=aq->R (.ref x) (aL G1 x (.exn C))) I ⟨ρ,G,_,sr,g,q,λvs H1 ds G1 t1 r1 g1 q1=>⟨t1,ds,G1,r1,g1,q1.1,q1.2⟩⟩;have hp2:(yh cpos (je (e::es) X.env)).any (·.1)=ao:=by rw[he];show(ao||(yh cpos (je es X.env)).any (·.1))=ao;rw[hpl];rfl
 rw[he]at hA hp2 ⊢;refine au (qb (Calls.evalArgs_plain (cL hA λus s2 ⟨vs,H2,I2,r2,t1,ds,G1,r1,g1,hl,q1⟩=>au (a1h ?_))));have hl2:us.length<=dg:=by rw[←r2.length,←r1.length];exact hl
 simp only[hp2];obtain⟨h0,g0,d0,t0,os0⟩:=s2;refine au (wpAny_keeperOf_exc (I2.bk _ _ hC) ?_);refine au (cL (adZ Fn hBn FB hq I2 g1 hl2 q1 λv H' d G' t3=>kk v H' d G' (t1.trans t3)) λv s3 q3=>au (qb (wpAny_point (dh q3))))
theorem aD6(Fn:a0r Bn newId inN bmN)(hBn:bmB.contains (.type Bn)=ak)(FB:a0r B nid initId bmB)(hg:Gl X x)(hm:X.mg x=aj (.ref C))(hq:yt X.K C bmB newId=ak)(hd:(x==("__debug__":Str))=ao):cF X (.Call (.Name x np) [] [] cpos) (aoZ C aC):=by
 intro pins s σ H Q I h _tk;obtain⟨ρ,G,R,sr,g,⟨hl,q⟩,kk⟩:=h;obtain⟨tl,N,nm,q',bs,hdct,sn,sub,ab,col,dd',k0,k1,k2,k3,k5,mN,hC,hN,hni,T⟩:=a4H I.mod.kin hq;refine wpAny_Call_ofName (mH I hg hm ?_ hd);unfold callWith;refine au (qb (PySem.evalArgs_none (au (a1h ?_))));obtain⟨h0,g0,d0,t0,os0⟩:=s;refine au (wpAny_keeperOf_exc (I.bk _ _ hC) ?_);refine au (cL (adZ (us:=[]) Fn hBn FB hq I g (vm _) q kk) λv s3 q3=>au (qb (wpAny_point (dh q3))))
end
end
section
section
end
section
variable{X:Cx}{qt:Bool}{k:Nat}{f C:bx}{fd:ju}{ps:List Str}{sp:gW}{EX:aN->aX}{x:Str}{p pos:Pos}{t:nH}{dd:List D}{yX:List V}{ds:List bh}
noncomputable def ah2(C:bx)(sp:gW)(dd:List D)(EX:aN->aX)(t:nH):cB:=λρ G R=>t ρ G λds G1=>∀x,G1 x=aq->sp (.ref x::(ds++dd)) (aL G1 x (.ins C [])) (λv G2=>v=.non/\R (.ref x) G2) (EX ρ)
set_option tactic.hygienic true in
theorem aa5{σ:St}{H:Hp}{s:cj}{G:Gp}{R:fL}{Q:VK}{us:List bh}{vs:List V}{pW:List D}{ρ:aN}(M:Mk X.K C f)(F:bY qt X.prog X.w X.K X.mg X.base (gZ X.prog X.w) k f fd ps (cH X.K sp))(hr:d9 qt (k+1) X.A)(hb:Binds X.K fd ps ds)(hd:Vals yX ds)(hdd:∀H,bQ X.K H dd yX)(hx:Cat X EX)
  (I:Inv X pins σ H s)(sr:SR X.K H ρ σ)(g:HR X.K H G)(r:Vals vs us)(r2:bQ X.K H pW vs)(h:∀x,G x=aq->sp (.ref x::(pW++dd)) (aL G x (.ins C [])) (λv G2=>v=.non/\R (.ref x) G2) (EX ρ))
  (hQ:∀v H' d G',Ts H H'->RD X.K H' d v->HR X.K H' G'->R d G'->Q v H'):cu (fj X.prog X.w) X.A (call (.ref C) us) (EP X pins σ Q) X.xe s:=by
 have n1:H (s.heap.objs.size+1)=aq:=I.hok.fresh (Nat.le_succ _);have n0:H s.heap.objs.size=aq:=I.hok.fresh (dw _);have ne:s.heap.objs.size+1≠s.heap.objs.size:=Nat.succ_ne_self _;have I2:=Inv.made (C:=C) I
 have kl:X.K.lookup (s.heap.objs.size+1)=aq:=by
  cases q:X.K.lookup (s.heap.objs.size+1)with
  |none=>rfl
  |some u=>have:=oM I2 _ u q;rw[aF]at this;cases this
 have gn:G (s.heap.objs.size+1)=aq:=gP (o:=.ins C s.heap.objs.size []) g n1 λb u e=>by
  by_cases c:b=s.heap.objs.size+1
  .subst c;rw[kl]at e;cases e
  .rw[aJ c];exact oM I b u e
 have t1:Ts H (upd H s.heap.objs.size (.own (s.heap.objs.size+1))):=.same (bB n0);have n1':upd H s.heap.objs.size (.own (s.heap.objs.size+1)) (s.heap.objs.size+1)=aq:=by rw[aJ ne];exact n1
 have t2:Ts (upd H s.heap.objs.size (.own (s.heap.objs.size+1))) (upd (upd H s.heap.objs.size (.own (s.heap.objs.size+1))) (s.heap.objs.size+1) (.ins C s.heap.objs.size [])):=.same (bB n1');have g1:HR X.K (upd H s.heap.objs.size (.own (s.heap.objs.size+1))) G:=g.same (bB n0);have g2:HR X.K (upd (upd H s.heap.objs.size (.own (s.heap.objs.size+1))) (s.heap.objs.size+1) (.ins C s.heap.objs.size [])) (aL G (s.heap.objs.size+1) (.ins C [])):=g1.put n1' ⟨s.heap.objs.size,[],aF,.nil⟩
 have hq:cH X.K sp (V.ref (s.heap.objs.size+1)::(vs++yX)) (upd (upd H s.heap.objs.size (.own (s.heap.objs.size+1))) (s.heap.objs.size+1) (.ins C s.heap.objs.size [])) (λv H'=>v=.non/\∃G',HR X.K H' G'/\R (.ref (s.heap.objs.size+1)) G') (a2P X.K (EX ρ)) :=
  ⟨.ref (s.heap.objs.size+1)::(pW++dd),_,_,EX ρ,.cons (.ref _) (((r2.mono t1).mono t2).append (hdd _)),g2,h _ gn,λv H' d G' r3 g3 q3=>by
   obtain⟨rfl,q3⟩:=q3;cases r3;exact⟨rfl,G',g3,q3⟩,λC H' G' g' q'=>⟨C,G',rfl,g',q'⟩⟩
 have rr:Vals (V.ref (s.heap.objs.size+1)::(vs++yX)) (bh.ref (s.heap.objs.size+1)::(us++ds)):=.cons rfl (r.append hd)
 have hl:(bh.ref (s.heap.objs.size+1)::us++ds).length=ps.length:=by
  have e:=rr.length;rw[F.len _ _ _ _ hq]at e;exact e.symm
 refine wpAny_call (anJ (f:=f) I.kIn M.makes M.init (beq_iff_eq.mp M.fn) (codeAny_mono (F.run _ X.stack _ _ ⟨bh.ref (s.heap.objs.size+1)::us,[]⟩ (bh.ref (s.heap.objs.size+1)::(us++ds)) _ _ _ (hr.make C us [])
  (I2.env0.make C us []) (hb _ (bh.ref (s.heap.objs.size+1)::us) I2.kIn hl) rr hq) λr s' hq'=>?_))
 cases r with
 |error e=>exact hx.aiN pins σ _ _ ρ e s' I2 ((sr.mono t1).mono t2) hq'
 |ok fl =>
  cases fl with
  |ret u =>
   obtain⟨v,H',os,bare,un,hok,rv,ev,G',g3,q3⟩:=hq';subst ev;exact⟨rv,⟨V.ref (s.heap.objs.size+1),H',I2.call' (ch:=[]) os un hok bare (λb z=>absurd z (by simp)),rfl,hQ _ H' (.ref _) G' ((t1.trans t2).trans ⟨un.tups,un.fK⟩) (.ref _) g3 q3⟩⟩
  |next=>exact False.elim hq'
  |brk=>exact False.elim hq'
  |cont=>exact False.elim hq'
theorem avR(M:Mk X.K C f)(F:bY qt X.prog X.w X.K X.mg X.base (gZ X.prog X.w) k f fd ps (cH X.K sp))(hr:d9 qt (k+1) X.A)(hg:Gl X x)(hm:X.mg x=aj (.ref C))(hb:Binds X.K fd ps ds)(hd:Vals yX ds)(hdd:∀H,bQ X.K H dd yX)(hx:Cat X EX)
  (ha:PA3 X (e::es) t)(hdb:(x==("__debug__":Str))=ao)(he:je (e::es) X.env=(ao,eval e X.env)::je es X.env)(hpl:(yh pos (je es X.env)).any (·.1)=ao) :
  cF X (.Call (.Name x p) (e::es) [] pos) (ah2 C sp dd EX t):=by
 intro pins s σ H Q I h _tk;obtain⟨ρ,G,R,sr,g,q,kk⟩:=h;refine yp (mH I hg hm ?_ hdb);refine PySem.W.callWith_K (h₀:=X.base) I.ok.mod.kin M.kp (cL (ha pos pins s σ H (λvs H1=>Ts H H1/\∃ds G1,bQ X.K H1 ds vs/\HR X.K H1 G1/\∀x,G1 x=aq->sp (.ref x::(ds++dd)) (aL G1 x (.ins C [])) (λv G2=>v=.non/\R (.ref x) G2) (EX ρ)) I ⟨ρ,G,_,sr,g,q,λvs H1 ds G1 t1 r1 g1 q1=>⟨t1,ds,G1,r1,g1,q1⟩⟩) λus s1 ⟨vs,H1,I1,r,t1,ds,G1,r1,g1,q1⟩=>⟨I1.kIn,?_⟩) he hpl;exact aa5 M F hr hb hd hdd hx I1 (sr.mono t1) g1 r r1 q1 λv H' d G' t2=>kk v H' d G' (t1.trans t2)
theorem ap1(M:Mk X.K C f)(F:bY qt X.prog X.w X.K X.mg X.base (gZ X.prog X.w) k f fd ps (cH X.K sp))(hr:d9 qt (k+1) X.A)(hg:Gl X x)(hm:X.mg x=aj (.ref C))(hb:Binds X.K fd ps ds)(hd:Vals yX ds)(hdd:∀H,bQ X.K H dd yX)(hx:Cat X EX)
  (hdb:(x==("__debug__":Str))=ao):cF X (.Call (.Name x p) [] [] pos) (ah2 C sp dd EX aC):=by
 intro pins s σ H Q I h _tk;obtain⟨ρ,G,R,sr,g,q,kk⟩:=h;refine yp (mH I hg hm ?_ hdb);exact PySem.W.callWith_K0 I.kIn M.kp (aa5 (us:=[]) (vs:=[]) (pW:=[]) M F hr hb hd hdd hx I sr g .nil .nil q λv H' d G' t2=>kk v H' d G' t2)
end
end
variable{ch:List bx}{t' kt:Nat}{SJ:Hp->Src->It->Prop}
section
section
variable{X:Cx}{pins:List (bx×Obj)}{σ:St}{H:Hp}{s:cj}{h':jj}
theorem Inv.zV(I:Inv X pins σ H s)(k:∀b u,b∉ch->s.heap.get? b=aj u->h'.get? b=aj u)(hc:∀b∈ch,mJ X pins H b):Inv X pins σ H {s with heap:=h',toks:=t' }:=by
 have nit:∀b u,H b=aj u->b∉ch:=λb u e z=>by rw[(hc b z).1]at e;cases e
 refine I.step (g':=s.gens) (d':=s.drawn) (ch:=ch) (λb hb=>?_) (λb o _ _ hn e _=>k b o hn e) (λb o _ _ hn e _=>⟨o.slots,k b o hn e⟩) (λ_ _ _ _ n=>n) (λb o hn e=>⟨o,k b o hn e⟩) (λ_ _ e=>e) (λ_ _ _ e=>e) (λb ps e=>⟨#[],by rw[e];simp⟩) (λm hm=>?_) (λb u e=>?_) I.bare
 .obtain⟨_,f1,_,f3,f4,f5⟩:=hc b hb;exact⟨f3,f1,f4,f5⟩
 .obtain⟨o,es,ep,ho,r⟩:=hm;exact⟨o,es,ep,k _ o (λz=>(hc _ z).2.1 rfl) ho,r⟩
 .refine(I.hok b u e).stay (λc v hcc q=>k c v ?_ q) (λ_ q=>q) λ_ _ q=>q;rcases hcc with z|z
  .rw[z];exact nit b u e
  .exact nit c _ z
theorem Inv.wK{a:bx}{o:HO}(I:Inv X pins σ H s)(k:∀b u,b∉ch->s.heap.get? b=aj u->h'.get? b=aj u)(hc:∀b∈ch,mJ X pins H b)(ha:s.heap.objs.size<=a)(new:dM X.prog X.w (upd H a o) h' a o):Inv X pins σ (upd H a o) {s with heap:=h',toks:=t' }:=by
 have nit:∀b u,H b=aj u->b∉ch:=λb u e z=>by rw[(hc b z).1]at e;cases e
 have fr:H a=aq:=I.hok.fresh ha;have sn:Same H (upd H a o):=bB fr;have na:∀b u,s.heap.get? b=aj u->b≠a:=λb u e z=>absurd (iz (gk e) (z ▸ ha)) (ud _);refine I.step (g':=s.gens) (d':=s.drawn) (ch:=ch) (λb hb=>?_) (λb o _ _ hn e _=>k b o hn e) (λb o _ _ hn e _=>⟨o.slots,k b o hn e⟩) (λb u _ e n=>by rw[aJ (na b u e)];exact n) (λb o hn e=>⟨o,k b o hn e⟩) (λb xs e=>sn _ _ e) (λb o u e=>sn _ _ e) (λb ps e=>⟨#[],by rw[sn _ _ e];simp⟩) (λm hm=>?_) (λb u e=>?_) I.bare
 .obtain⟨_,f1,_,f3,f4,f5⟩:=hc b hb;exact⟨f3,f1,f4,f5⟩
 .obtain⟨o,es,ep,ho,r⟩:=hm;exact⟨o,es,ep,k _ o (λz=>(hc _ z).2.1 rfl) ho,r⟩
 .by_cases hb:b=a
  .subst hb;rw[aF]at e;cases e;exact new
  .rw[aJ hb]at e;refine(I.hok b u e).stay (λc v hcc q=>k c v ?_ q) (λ_ q=>sn _ _ q) λ_ _ q=>sn _ _ q;rcases hcc with z|z
   .rw[z];exact nit b u e
   .exact nit c _ z
end
noncomputable def Itz(K:Fg)(a b:bx):It :=
 ⟨λi H=>∃xs ys x y,pO K H a xs/\pO K H b ys/\xs[i]?=aj x/\ys[i]?=aj y,
  λi H v H'=>∃p x y,H p=aq/\v=.ref p/\H'=upd H p (.tup [x,y])/\(∀xs,pO K H a xs->xs[i]?=aj x)/\∀ys,pO K H b ys->ys[i]?=aj y,
  λi H=>∃xs ys,pO K H a xs/\pO K H b ys/\(xs.length<=i∨ys.length<=i)⟩
def aJ7(z TI TO i1 i2 l1 l2:bx)(i:Nat)(h:jj):Prop:=IsZip h z TI TO .none/\IsPair h TI (.ref i1) (.ref i2)/\(∃a b,IsPair h TO a b)/\h.IsListIter i1 l1 i/\h.IsListIter i2 l2 i
theorem ap2{w:iy}{K:Fg}{pt:Pos}{TI TO:bx}(D:ZipApart z TI TO i1 i2 l1 l2):Turn ak tl P w K (.Tuple es kt pt) (Itz K l1 l2) [z,TI,TO,i1,i2] z (aJ7 z TI TO i1 i2 l1 l2) where
 mem:=by simp
 obj:=λi h st b hb=>by
  obtain⟨hz,hTI,⟨a,c,hTO⟩,⟨o1,e1,_,d1⟩,⟨o2,e2,_,d2⟩⟩:=st;simp only[jm,qj,or_false]at hb;rcases hb with rfl|rfl|rfl|rfl|rfl
  .exact⟨_,hz,λv z=>nomatch z⟩
  .exact⟨_,hTI,λv z=>nomatch z⟩
  .exact⟨_,hTO,λv z=>nomatch z⟩
  .exact⟨o1,e1,λv z=>by rw[d1]at z;cases z⟩
  .exact⟨o2,e2,λv z=>by rw[d2]at z;cases z⟩
 keep:=λi h h' st k=>by
  obtain⟨hz,hTI,⟨a,c,hTO⟩,s1,s2⟩:=st;exact⟨k z (by simp) _ hz,k TI (by simp) _ hTI,⟨a,c,k TO (by simp) _ hTO⟩,s1.at λo e=>k i1 (by simp) o e,s2.at λo e=>k i2 (by simp) o e⟩
 item:=by
  intro X hP hw hK hcm ht i pins s σ H E I hf st hg;subst hP hw hK;obtain⟨hz,hTI,⟨a,c,hTO⟩,s1,s2⟩:=st;obtain⟨xs,ys,x,y,q1,q2,e1,e2⟩:=hg;obtain⟨us,r1,p1,_⟩:=I.list q1;obtain⟨ws,r2,p2,_⟩:=I.list q2;obtain⟨u,hu,ru⟩:=r1.get e1;obtain⟨v,hv,rv⟩:=r2.get e2;have fr:=I.hok.fresh (dw s.heap.objs.size);have lt:∀{c o},s.heap.get? c=aj o->s.heap.objs.size≠c:=λe=>yj (gk e);have n1:s.heap.objs.size≠i1:=by obtain⟨_,e,_⟩:=s1;exact lt e
  have n2:s.heap.objs.size≠i2:=by obtain⟨_,e,_⟩:=s2;exact lt e
  refine wpAny_pyNext_zip_item D hz hTI hTO s1 s2 p1.isList p2.isList (x:=u) (y:=v) (by simpa using hu) (by simpa using hv) λh' a1 a2 a3 a4 a5 a6 kk=>?_;refine⟨_,rfl,wpAny_letOwnedTupleGo_zip (s:={s with heap:=h' }) a1 λh2 b1 sb=>?_⟩
  have k2:∀b o,b∉[z,TO,i1,i2]->s.heap.get? b=aj o->h2.get? b=aj o:=λb o hb e =>
   sb.extBut _ _ (λq=>hb (by simp[q])) (kk b o (λq=>hb (by simp[q])) (λq=>hb (by simp[q])) (λq=>hb (by simp[q])) (λq=>hb (by simp[q])) e)
  have sub:∀b∈[z,TO,i1,i2],b∈[z,TI,TO,i1,i2]:=λb hb=>by
   simp only[jm,qj,or_false]at hb ⊢;rcases hb with e|e|e|e<;>simp[e]
  refine⟨.ref s.heap.objs.size,upd H s.heap.objs.size (.tup [x,y]),I.wK (t':=s.toks) (ch:=[z,TO,i1,i2]) k2 (λb hb=>hf b (sub b hb)) (dw _) ⟨show 2<=dg by decide,[u,v],.cons ru (.cons rv .nil),⟨_,sb.extBut _ _ (lt hz) a5,rfl,_,rfl⟩⟩,rfl,
   ⟨_,x,y,fr,rfl,rfl,λxs' q=>by rw[I.z6 q q1];exact e1,λys' q=>by rw[I.z6 q q2];exact e2⟩,
   ⟨b1,sb.extBut _ _ D.TIz (kk _ _ D.TIz D.TITO D.TIi1 D.TIi2 hTI),⟨_,_,sb.extBut _ _ D.TOz a2⟩,a3.extBut sb.extBut D.i1z,a4.extBut sb.extBut D.i2z⟩,λb hb=>?_⟩
  have hb2:=hb;simp only[jm,qj,or_false]at hb2;rw[aJ]
  .exact(hf b hb).1
  .intro q;rcases hb2 with e|e|e|e|e
   .exact lt hz (q.symm.trans e)
   .exact lt hTI (q.symm.trans e)
   .exact lt hTO (q.symm.trans e)
   .exact n1 (q.symm.trans e)
   .exact n2 (q.symm.trans e)
 done:=by
  intro X hP hw hK hcm ht i pins s σ H E I hf st hg;subst hP hw hK;obtain⟨hz,hTI,⟨a,c,hTO⟩,s1,s2⟩:=st;obtain⟨xs,ys,q1,q2,le⟩:=hg;obtain⟨us,r1,p1,_⟩:=I.list q1;obtain⟨ws,r2,p2,_⟩:=I.list q2;have l1:=r1.length;have l2:=r2.length
  have sub:∀b∈[z,TO,i1,i2],b∈[z,TI,TO,i1,i2]:=λb hb=>by
   simp only[jm,qj,or_false]at hb ⊢;rcases hb with e|e|e|e<;>simp[e]
  refine wpAny_pyNext_zip_end (I.ok.hd (hcm rfl)) D hz hTI hTO s1 s2 p1.isList p2.isList (le.elim (λq=>.inl (by simp;omega)) λq=>.inr (by simp;omega)) λh' kk=>⟨rfl,?_⟩;exact I.zV (t':=s.toks) (ch:=[z,TO,i1,i2]) (λb o hb e=>kk b o (λq=>hb (by simp[q])) (λq=>hb (by simp[q])) (λq=>hb (by simp[q])) (λq=>hb (by simp[q])) e) λb hb=>hf b (sub b hb)
 self:=λ_ _ _ _ _ st h=>wpAny_pyIter_zip st.1 h
theorem avS{i:Nat}{x:D}(h1:xs[i]?=aj x)(h2:ys[i]?=aj y):(prs xs ys)[i]?=aj (.tup [x,y]):=by
 unfold prs;rw[nu,(List.getElem?_zip_eq_some (z:=(x,y))).mpr ⟨h1,h2⟩];rfl
theorem avT{xs ys:List D}:(prs xs ys).length=min xs.length ys.length:=by simp[prs]
theorem ae0{K:Fg}{p:bx}:a1L K H1 (.zip p q xs ys) (Itz K p q):=λH2 G2 t g ok=>by
 obtain⟨ok1,ok2⟩:aM G2 p=aj xs/\aM G2 q=aj ys:=ok;obtain⟨vs,hq1,rv1⟩:=bM g ok1;obtain⟨ws,hq2,rv2⟩:=bM g ok2;have l1:=rv1.length;have l2:=rv2.length;have hl:(Src.zip p q xs ys).items.length=min xs.length ys.length:=avT;refine⟨λi hi=>?_,λi v H' hi hy=>?_,⟨vs,ws,hq1,hq2,by rw[hl];omega⟩⟩
 .rw[hl]at hi;obtain⟨x,e1,_⟩:=rv1.get (gw (show i<xs.length by omega));obtain⟨y,e2,_⟩:=rv2.get (gw (show i<ys.length by omega));exact⟨vs,ws,x,y,hq1,hq2,e1,e2⟩
 .obtain⟨a,x,y,fr,rfl,rfl,h1,h2⟩:=hy;obtain⟨d1,e1,f1⟩:=rv1.adE (h1 vs hq1);obtain⟨d2,e2,f2⟩:=rv2.adE (h2 ws hq2);have sn:Same H2 (upd H2 a (.tup [x,y])):=bB fr;exact⟨sn,.tup [d1,d2],avS e1 e2,.tup (oH.of aF) (.cons (f1.mono (.same sn)) (.cons (f2.mono (.same sn)) .nil)) (adD aF)⟩
theorem ap3{K:Fg}{p:bx}:zQ K (.zip p q xs ys) (Itz K p q):=λH2 G2 g ok=>ae0 (H1:=H2) H2 G2 (.refl _) g ok
noncomputable def a2T(ta:nH):TI3:=λρ G R=>ta ρ G λxs G1=>match xs with
 |[.ref p,.ref q]=>(match aM G1 p,aM G1 q with
  |some xs,aj ys=>R (.zip p q xs ys) G1
  |_,_=>False)
 |_=>False
variable{p:Pos}{b:jf}
section
variable{X:Cx}{es:List jf}{kt:Nat}{pt:Pos}
set_option tactic.hygienic true in
theorem ap4{a:jf}{ta:nH}(hc:X.calm=ak)(hg:Gl X "zip")(hm:X.mg "zip"=aq)(hv:jr "zip"=aj (.type "zip"))(ha:PA3 X [a,b] ta)(hs:je [a,b] X.env=[(ao,eval a X.env),(ao,eval b X.env)])(hs2:je [b] X.env=[(ao,eval b X.env)])
  (hSJ:∀H p q xs ys,SJ H (.zip p q xs ys) (Itz X.K p q)):PI X (.Tuple es kt pt) (.Call (.Name "zip" p) [a,b] [] pos) (λσ H Q=>∃ρ G R,SR X.K H ρ σ/\HR X.K H G/\a2T ta ρ G R/\∀src J H' G',Ts H H'->HR X.K H' G'->SJ H' src J->R src G'->Q J H'):=by
 intro pins s σ H R I h _tk;obtain⟨ρ,G,R3,sr,g,q,k⟩:=h
 refine Call_ (rJ I hg hm hv (PyProof.Rows.callWith_type1 (cL (ha pos pins s σ H (λvs H1=>Ts H H1/\∃ds G1,bQ X.K H1 ds vs/\HR X.K H1 G1/\(match ds with
  |[.ref p,.ref q]=>(match aM G1 p,aM G1 q with
   |some xs,aj ys=>R3 (.zip p q xs ys) G1
   |_,_=>False)
  |_=>False)) I ⟨ρ,G,_,sr,g,q,λvs H1 ds G1 t1 r1 g1 q1=>⟨t1,ds,G1,r1,g1,q1⟩⟩) λus s1 ⟨vs,H1,I1,rr,t1,ds,G1,r1,g1,q1⟩=>?_) (by rw[hs,hs2]) (by rw[hs2];rfl)))
 split at q1
 .rename_i l1 l2;split at q1
  .rename_i xs ys e1 e2;cases r1 with
   |cons ra rb =>
    cases rb with
    |cons rb rc =>
     cases rc;cases ra;cases rb;cases rr with
     |cons ra rb =>
      cases rb with
      |cons rb rc =>
       cases rc;cases ra;cases rb;obtain⟨zs1,hz1,_⟩:=bM g1 e1;obtain⟨zs2,hz2,_⟩:=bM g1 e2;obtain⟨u1,_,p1,_⟩:=I1.list hz1;obtain⟨u2,_,p2,_⟩:=I1.list hz2;have a1:l1<s1.heap.objs.size:=by obtain⟨_,e,_⟩:=p1.isList;exact gk e
       have a2:l2<s1.heap.objs.size:=by obtain⟨_,e,_⟩:=p2.isList;exact gk e
       refine call_zip_2 p1.isList p2.isList λh' hz hTI hTO hi1 hi2 hsz kk=>wpAny_pyIter_zip (s:={s1 with heap:=h' }) hz ?_;have up:∀j,s1.heap.objs.size<=s1.heap.objs.size+j:=λj=>a1g _ j;refine⟨_,_,_,_,H1,rfl,I1.kept (t':=s1.toks) kk,(show Turn X.calm X.tp X.prog X.w X.K (.Tuple es kt pt) _ _ _ _ from hc ▸ ap2 (zipApart_new a1 a2)),⟨hz,hTI,⟨_,_,hTO⟩,hi1,hi2⟩,λb hb=>?_,k _ _ H1 G1 t1 g1 (hSJ H1 l1 l2 xs ys) q1⟩
       have hb':s1.heap.objs.size<=b:=by
        simp only[jm,qj,or_false]at hb;rcases hb with e|e|e|e|e<;>rw[e]
        .exact up 4
        .exact up 2
        .exact up 3
        .exact dw _
        .exact up 1
       exact I1.uH hb' (I1.hok.fresh hb')
  .exact q1.elim
 .exact q1.elim
theorem aJ9(hc:X.calm=ak)(hg:Gl X "zip")(hm:X.mg "zip"=aq)(hv:jr "zip"=aj (.type "zip"))(ha:PA3 X [a,b] ta)(hs:je [a,b] X.env=[(ao,eval a X.env),(ao,eval b X.env)])(hs2:je [b] X.env=[(ao,eval b X.env)]):PI3 X (.Tuple es kt pt) (.Call (.Name "zip" p) [a,b] [] pos) (a2T ta) :=
 ap4 (SJ:=a1L X.K) hc hg hm hv ha hs hs2 λ_ _ _ _ _=>ae0
theorem aD7(hc:X.calm=ak)(hg:Gl X "zip")(hm:X.mg "zip"=aq)(hv:jr "zip"=aj (.type "zip"))(ha:PA3 X [a,b] ta)(hs:je [a,b] X.env=[(ao,eval a X.env),(ao,eval b X.env)])(hs2:je [b] X.env=[(ao,eval b X.env)]):PIS X (.Tuple es kt pt) (.Call (.Name "zip" p) [a,b] [] pos) (a2T ta) :=
 ap4 (SJ:=λ_=>zQ X.K) hc hg hm hv ha hs hs2 λ_ _ _ _ _=>ap3
end
variable{s:cj}
section
variable{prog:jt}{w:iy}{A:iw}{n:Nat}{St:Nat->jj->Prop}
theorem ap5(W:Walks prog w A.in1 I fp wr n P St)(bt:Nat->Nat->Bool)(hcmp:CmpOf prog w A.in1 .Gt P bt)(S:bx)(hSf:S∉fp):∀(k j:Nat)(s:cj)(vb:bh)(c:Nat),n - (j+1)=k->j+1<=n->St (j+1) s.heap->P (argBest bt j) vb ->
   s.heap.get? S=aj {cls:=.type "list",dict:=none,data:=.seq #[vb,vb] c,slots:=#[]}->(∀v h' tk,P (argBest bt (n - 1)) v->(∀b o,b∉wr->b≠S->s.heap.get? b=aj o->h'.get? b=aj o)->R (.ok (.ret v)) {s with heap:=h',toks:=tk}) ->
   yu (fj prog w) A (.builtin "max.loop" ⟨[.ref I,.none,.ref S],kw⟩) R s:=by
 have nw:S∉wr:=λh=>hSf (W.sub _ h);have nm:(toString "max"++toString ".loop":String)="max.loop":=by decide
 intro k;induction k with
 |zero =>
  intro j s vb c hk hj hst hb hS hR;have hn:j+1=n:=by omega
  refine xr F.entry_max_loop ?_;rw[iw.under_plainId F.plain_max_loop _];show cu _ A.in1 (a0w (.ref S) >>= _) _ _ s;refine au (wz hS rfl ?_);show cu _ A.in1 (tryCatch (zc (.ref I)) _ >>= _) _ _ s;refine au (yw (W.done s _ _ (hn ▸ hst) λh' tk hk'=>?_));have z:=hk' S _ nw hS;show cu _ A.in1 (updateSeq S (λ_=>#[]) >>= _) _ _ _;refine au ?_;refine a1a z rfl (au (zp (dh (hR vb _ tk (by rw[←hn];exact hb) λb o h1 h2 e=>?_))));exact(mz _ _ (Ne.symm h2)).trans (hk' b o h1 e)
 |succ k ih =>
  intro j s vb c hk hj hst hb hS hR;have hn:j+1<n:=by omega
  refine xr F.entry_max_loop ?_;rw[iw.under_plainId F.plain_max_loop _];show cu _ A.in1 (a0w (.ref S) >>= _) _ _ s;refine au (wz hS rfl ?_);show cu _ A.in1 (tryCatch (zc (.ref I)) _ >>= _) _ _ s;refine au (yw (W.item (j+1) s _ _ hn hst λv h' tk hP hst' hk'=>?_));have z:=hk' S _ nw hS;show cu _ A.in1 (tryCatch (a0g [v,v] (a1l .Gt v vb >>= _)) _ >>= _) _ _ _;refine au (yw (qb (au (hcmp (j+1) (argBest bt j) v vb _ _ _ hP hb ?_))));refine au (qb (um (au (zp (dh ?_)))));cases e:bt (j+1) (argBest bt j)with
  |true =>
   simp only[if_true];refine au ?_;refine a1a z rfl (au (zp ?_));rw[nm];refine dh ⟨zf F.plain_max_loop _,ih (j+1) _ v _ (by omega) hn (W.frame _ _ _ hst' λb hbf o e=>?_) (by simp only[argBest,e,if_true];exact hP) (vg _ z rfl) λv' h2 tk2 hP' hk2=>hR v' h2 tk2 hP' λb o h1 h3 e=>?_⟩
   .exact(mz _ _ (λh:S=b=>hSf (by rw[h];exact hbf))).trans e
   .exact hk2 b o h1 h3 ((mz _ _ (Ne.symm h3)).trans (hk' b o h1 e))
  |false =>
   simp only[qe,if_false];refine au (zp ?_);rw[nm];refine dh ⟨zf F.plain_max_loop _,ih (j+1) _ vb c (by omega) hn hst' (by simp only[argBest,e,qe,if_false];exact hb) z λv' h2 tk2 hP' hk2=>hR v' h2 tk2 hP' λb o h1 h3 e=>hk2 b o h1 h3 (hk' b o h1 e)⟩
theorem alE(W:Walks prog w A.in1 I fp wr n P St)(bt:Nat->Nat->Bool)(hcmp:CmpOf prog w A.in1 .Gt P bt)(S:bx)(hSf:S∉fp){c:Nat}{kn:Str}(hst:St 0 s.heap)(hS:s.heap.get? S=aj {cls:=.type "list",dict:=none,data:=.seq #[] c,slots:=#[]})
  (h0:n=0->∀h' tk,(∀b o,b∉wr->b≠S->s.heap.get? b=aj o->h'.get? b=aj o)->R (.ok (.ret d)) {s with heap:=h',toks:=tk})
  (hR:0<n->∀v h' tk,P (argBest bt (n - 1)) v->(∀b o,b∉wr->b≠S->s.heap.get? b=aj o->h'.get? b=aj o)->R (.ok (.ret v)) {s with heap:=h',toks:=tk}) :
  yu (fj prog w) A (.builtin "max.loop" ⟨[.ref I,.none,.ref S],(kn,d)::kr⟩) R s:=by
 have nw:S∉wr:=λh=>hSf (W.sub _ h);have nm:(toString "max"++toString ".loop":String)="max.loop":=by decide
 refine xr F.entry_max_loop ?_;rw[iw.under_plainId F.plain_max_loop _];show cu _ A.in1 (a0w (.ref S) >>= _) _ _ s;refine au (wz hS rfl ?_);show cu _ A.in1 (tryCatch (zc (.ref I)) _ >>= _) _ _ s;by_cases hn:0<n
 .refine au (yw (W.item 0 s _ _ hn hst λv h' tk hP hst' hk'=>?_));have z:=hk' S _ nw hS;show cu _ A.in1 (updateSeq S (λ_=>#[v,v]) >>= _) _ _ _;refine au ?_;refine a1a z rfl ?_;rw[nm];refine dh ⟨zf F.plain_max_loop _,ap5 W bt hcmp S hSf _ 0 _ v _ rfl hn (W.frame _ _ _ hst' λb hbf o e=>?_) hP (vg _ z rfl) λv' h2 tk2 hP' hk2=>hR hn v' h2 tk2 hP' λb o h1 h3 e=>?_⟩
  .exact(mz _ _ (λh:S=b=>hSf (by rw[h];exact hbf))).trans e
  .exact hk2 b o h1 h3 ((mz _ _ (Ne.symm h3)).trans (hk' b o h1 e))
 .have n0:n=0:=by omega
  refine au (yw (W.done s _ _ (by rw[n0];exact hst) λh' tk hk'=>?_));exact au (a0x (dh (h0 n0 h' tk λb o h1 _ e=>hk' b o h1 e)))
end
theorem ap6(a v:bh):argsOk "max" ⟨[a],[(Str.ofString "default",v)]⟩:=by unfold argsOk;kernel_rfl
theorem ap7{w:iy}{A:iw}{xs:Array (Int×Tok)}(hh:A.handled=aq)(hl:s.heap.IsList l (intItems xs))
  (h0:xs.size=0->∀h' tk,(∀b o,s.heap.get? b=aj o->h'.get? b=aj o)->Q d {s with heap:=h',toks:=tk})
  (h:0<xs.size->∀v h' tk,(intItems xs)[argBest (λi j=>decide (numAt xs i>numAt xs j)) (xs.size - 1)]?=aj v->(∀b o,s.heap.get? b=aj o->h'.get? b=aj o)->Q v {s with heap:=h',toks:=tk}) :
  cu (fj prog w) A (call (.builtin "max") [.ref l] [(Str.ofString "default",d)]) Q E s:=by
 have nm:(toString "max"++toString ".loop":String)="max.loop":=by decide
 have sz:(intItems xs).size=xs.size:=by simp[intItems]
 refine kmk_tree F.kind_max F.plain_max F.entry_max (ap6 _ _) ?_;show cu _ A.in1 (Builtin.Builtins.bindParams "max" ["key","default"] 0 ⟨[],[(Str.ofString "default",d)]⟩ >>= _) _ _ s;refine au (wpAny_of_eq (show Builtin.Builtins.bindParams "max" ["key","default"] 0 ⟨[],[(Str.ofString "default",d)]⟩=pure [aq,aj d]from rfl) ?_);refine au (dh (au (iter_intList hl λs₂ e st hfp hlI=>?_)));subst e;refine au (ni ?_);rw[nm];have W:=Walks.list (prog:=prog) (w:=w) (A:=A.in1) hh s.heap.objs.size l hlI (intItems xs);refine dh ⟨zf F.plain_max_loop _,alE W _ (CmpOf.ints_gt (numAt xs) (λ_ _=>intItems_at)) _ (λhm=>ud _ (hfp _ hm)) (W.frame _ _ _ st λb _ o e=>cg _ e) (gV _ rfl) (λn0 h' tk hk=>?_) λn0 v h' tk hP hk=>?_⟩
 .refine h0 (by rw[←sz];exact n0) h' tk (old_kept (l:=l) λb o hbw e=>hk b o hbw (jd (gk e)) (cg _ e))
 .refine h (by rw[←sz];exact n0) v h' tk (by rw[sz]at hP;exact hP) (old_kept (l:=l) λb o hbw e=>hk b o hbw (jd (gk e)) (cg _ e))
def uV(x d:D)(G:Gp)(R:fL):Prop:=match x with
 |.ref p=>(match aM G p with
  |some ds=>∃ns:List Int,ds=ns.map D.int/\(ns=[]->R d G)/\∀M,M∈ns->(∀a∈ns,a<=M)->R (.int M) G
  |none=>False)
 |_=>False
noncomputable def aj4(te td:cB):cB:=λρ G R=>te ρ G λx G1=>td ρ G1 λd G2=>uV x d G2 R
section
variable{X:Cx}{x:Str}{p pos kp:Pos}
set_option tactic.hygienic true in
theorem aD8(hc:X.calm=ak)(hg:Gl X x)(hm:X.mg x=aq)(hv:jr x=aj (.builtin "max"))(he:cF X e te)(hd:cF X d td)(hn:x≠"__name__")(hdb:(x==("__debug__":Str))=ao)
  (hs:je [e] X.env=[(ao,eval e X.env)]):cF X (.Call (.Name x p) [e] [⟨aj "default",d,kp⟩] pos) (aj4 te td):=by
 intro pins s σ H Q I h _tk;obtain⟨ρ,G,R,sr,g,q,kk⟩:=h;refine yp (rJ I hg hm hv ?_ hn hdb)
 have hA:=(dH he tM (by rw[hs];rfl)) pos pins s σ H (λvs H1=>Ts H H1/\∃ds G1,bQ X.K H1 ds vs/\HR X.K H1 G1/\(match ds with
  |[y]=>td ρ G1 λd G2=>uV y d G2 R
  |_=>False)) I ⟨ρ,G,(λds G1=>match ds with
  |[y]=>td ρ G1 λd G2=>uV y d G2 R
  |_=>False),sr,g,q,λvs H1 ds G1 t1 r1 g1 q1=>⟨t1,ds,G1,r1,g1,q1⟩⟩
 refine callWith_kw (cL hA λus s1 ⟨vs,H1,I1,rr,t1,ds,G1,r1,g1,q1⟩=>?_) (by rw[hs];rfl) (by rw[hs];rfl) rfl rfl;split at q1
 .rename_i y;cases r1 with
  |@cons _ vy _ _ ry rn =>
   cases rn;cases rr with
   |@cons _ uy _ _ ru rn =>
    cases rn;refine cL (aiE (nm:=some "default") (kpos:=kp) hd anL pos pins s1 σ H1 (λzs H2=>Ts H H2/\Ts H1 H2/\∃z G2 dz,zs=[z]/\RD X.K H2 dz z/\HR X.K H2 G2/\uV y dz G2 R) I1 ⟨ρ,G1,_,sr.mono t1,g1,q1,λv H2 dz G2 t2 r2 g2 q2=>⟨t1.trans t2,t2,v,G2,dz,rfl,r2,g2,q2⟩⟩) λkvs s2 ⟨zs,H2,I2,rz,tt,t2,z,G2,dz,e,r2,g2,q2⟩=>?_;subst e;cases rz with
    |@cons _ kv _ _ rk rn =>
     cases rn;show cu _ _ (call (.builtin "max") [uy] [(Str.ofString "default",kv)]) _ _ s2;unfold uV at q2;split at q2
     .rename_i l;split at q2
      .rename_i ds e1;obtain⟨ns,rfl,h0,h1⟩:=q2;cases ry;cases ru;obtain⟨ys,hq,r3⟩:=bM g2 e1;obtain⟨its,rv',pl,_⟩:=I2.list hq;obtain⟨zs,rfl,e2⟩:=ints_of r3 rv';refine ap7 (I2.ok.hd hc) (int_list pl.isList) (λn0 h' tk kp=>?_) λn0 v h' tk hv kp=>?_
       .have:ns=[]:=by
         rw[←e2];cases zs with
         |nil=>rfl
         |cons _ _=>simp at n0
        exact⟨z,H2,I2.kept kp,rk,kk _ H2 _ G2 tt r2 g2 (h0 this)⟩
       .obtain⟨t,rfl⟩:=intItems_at hv;obtain⟨_,h2⟩:=argBest_gt (numAt zs.toArray) (zs.toArray.size - 1);refine⟨.int _,H2,I2.kept kp,⟨t,rfl⟩,kk _ H2 _ G2 tt (.int _) g2 (h1 _ (ah0 e2 (by omega)) λa ha=>?_)⟩;obtain⟨j,hj,rfl⟩:=ah1 e2 ha;exact h2 j (by omega)
      .exact q2.elim
     .exact q2.elim
 .exact q1.elim
end
end
variable{x:List Key×bx×bh}
section
noncomputable def aJA:D->Option Key
 |.int i=>aj (.inl i)
 |.str x=>aj (.inr x)
 |_=>aq
noncomputable def ap8:List D->Option (List Key)
 |[]=>aj []
 |d::r=>match aJA d,ap8 r with
  |some k,aj ks=>aj (k::ks)
  |_,_=>aq
noncomputable def a8V:D->Option DK
 |.int i=>aj (.inl (.inl i))
 |.str x=>aj (.inl (.inr x))
 |_=>aq
noncomputable def xQ:DK->Bool
 |.inl _=>ao
 |.inr _=>ak
section
variable{κ:Type}[DecidableEq κ]{α:Type}
noncomputable def nP:List (κ×α)->κ->Option α
 |[],_=>aq
 |p::r,k=>if p.1=k then aj p.2 else nP r k
noncomputable def zW(kvs:List (κ×α))(k:κ)(v:α):List (κ×α):=if(nP kvs k).isSome=ak then kvs.map (λkv=>if kv.1=k then(kv.1,v)else kv)else kvs++[(k,v)]
end
noncomputable abbrev xG{κ:Type}(K:Fg)(H:Hp)(f:κ->DK):List (DK×D)->List (κ×V)->Prop:=Two λp q=>p.1=f q.1/\RD K H p.2 q.2
section
variable{κ:Type}[DecidableEq κ]{K:Fg}
theorem val_two(hf:∀a b,f a=f b->a=b){k:κ}:∀{kvs:List (DK×D)}{xs:List (κ×V)},xG K H f kvs xs->(∀d,nP kvs (f k)=aj d->∃v,yE xs k=aj v/\RD K H d v)/\(nP kvs (f k)=aq->yE xs k=aq)
 |_,_,.nil=>⟨λd e=>(nomatch e),λ_=>rfl⟩
 |p::kvs,q::xs,.cons h r=>by
  obtain⟨h1,h2⟩:=h;by_cases c:q.1=k
  .have c2:p.1=f k:=by rw[h1,c]
   unfold nP;rw[if_pos c2,z8 c];exact⟨λd e=>by cases e;exact⟨_,rfl,h2⟩,λe=>(nomatch e)⟩
  .have c2:¬ p.1=f k:=λz=>c (hf _ _ (h1.symm.trans z));unfold nP;rw[if_neg c2,z9 c];exact val_two hf r
theorem ap9(hf:∀a b,f a=f b->a=b){k:κ}(t:xG K H f kvs xs):(nP kvs (f k)).isSome=(yE xs k).isSome:=by
 have z:=val_two hf (k:=k) t;cases e:nP kvs (f k)with
 |none=>rw[z.2 e];rfl
 |some d=>obtain⟨v,e2,_⟩:=z.1 d e;rw[e2];rfl
theorem aj5{g:DK×D->DK×D}(gh:∀p q,p.1=f q.1/\RD K H p.2 q.2->(g p).1=f (h q).1/\RD K H (g p).2 (h q).2):∀{kvs:List (DK×D)}{xs:List (κ×V)},xG K H f kvs xs->xG K H f (kvs.map g) (xs.map h)
 |_,_,.nil=>.nil
 |_,_,.cons z r=>.cons (gh _ _ z) (aj5 gh r)
theorem ae1{p:DK×D}{q:κ×V}(z:p.1=f q.1/\RD K H p.2 q.2):∀{kvs:List (DK×D)}{xs:List (κ×V)},xG K H f kvs xs->xG K H f (kvs++[p]) (xs++[q])
 |_,_,.nil=>.cons z .nil
 |_,_,.cons y r=>.cons y (ae1 z r)
theorem a4L(hf:∀a b,f a=f b->a=b){k:κ}(rd:RD K H d v)(t:xG K H f kvs xs):xG K H f (zW kvs (f k) d) (putK xs k v):=by
 unfold zW putK;rw[a5E,ap9 hf t];split
 ·refine aj5 ?_ t;rintro p q ⟨h1,h2⟩;by_cases c:q.1=k
  .rw[if_pos (show p.1=f k by rw[h1,c]),if_pos c];exact⟨h1,rd⟩
  .rw[if_neg (show ¬ p.1=f k from λz=>c (hf _ _ (h1.symm.trans z))),if_neg c];exact⟨h1,h2⟩
 .exact ae1 (p:=(f k,d)) (q:=(k,v)) ⟨rfl,rd⟩ t
end
theorem a4M(a b:Key)(h:(Sum.inl a:DK)=.inl b):a=b:=by cases h;rfl
theorem a4N(a b:List Key)(h:(Sum.inr a:DK)=.inr b):a=b:=by cases h;rfl
def pY(x y:D)(G:Gp)(P:bx->Bool->List (DK×D)->DK->Prop):Prop:=match x with
 |.ref a=>(match G a,a8V y with
  |some (.lF t kvs),aj k=>xQ k=t/\P a t kvs k
  |_,_=>False)
 |_=>False
noncomputable def a68(K:Fg)(H:Hp)(a:bx)(vy:V)(kvs:List (DK×D))(k:DK):Prop :=
 (∃k' xs,k=.inl k'/\H a=aj (.dK xs)/\xG K H .inl kvs xs/\vy=kV k')∨∃ks xs b,k=.inr ks/\H a=aj (.dT xs)/\xG K H .inr kvs xs/\vy=.ref b/\H b=aj (.tup (ks.map kV))
theorem abO{K:Fg}{k:DK}(ry:RD K H y vy)(e:a8V y=aj k):(∃k',k=.inl k'/\vy=kV k')∨∃ks b,k=.inr ks/\vy=.ref b/\H b=aj (.tup (ks.map kV)):=by
 cases ry with
 |int i=>cases e;exact .inl ⟨_,rfl,rfl⟩
 |str x=>cases e;exact .inl ⟨_,rfl,rfl⟩
 |_=>cases e
set_option tactic.hygienic true in
theorem uW{K:Fg}{x:D}(rx:RD K H x vx)(ry:RD K H y vy)(g:HR K H G)(h:pY x y G P) :
  ∃a kvs k,x=.ref a/\vx=.ref a/\G a=aj (.lF (xQ k) kvs)/\a8V y=aj k/\P a (xQ k) kvs k/\a68 K H a vy kvs k:=by
 unfold pY at h;split at h
 .rename_i a;split at h
  .rename_i t kvs k e1 e2;obtain⟨rfl,h⟩:=h;cases rx;refine⟨a,kvs,k,rfl,rfl,e1,e2,h,?_⟩;rcases g a _ e1 with⟨z,xs,e3,r⟩|⟨z,xs,e3,r⟩
   .rcases abO ry e2 with⟨k',rfl,rfl⟩|⟨ks,b,rfl,_⟩
    .exact .inl ⟨k',xs,rfl,e3,r,rfl⟩
    .cases z
   .rcases abO ry e2 with⟨k',rfl,rfl⟩|⟨ks,b,rfl,rfl,eb⟩
    .cases z
    .exact .inr ⟨ks,xs,b,rfl,e3,r,rfl,eb⟩
  .exact h.elim
 .exact h.elim
theorem a68.get{K:Fg}{k:DK}(h:a68 K H a vy kvs k):(∀d,nP kvs k=aj d->∃v,yG H a vy (aj v)/\RD K H d v)/\(nP kvs k=aq->yG H a vy aq):=by
 rcases h with⟨k',xs,rfl,e,r,rfl⟩|⟨ks,xs,b,rfl,e,r,rfl,eb⟩
 .have z:=val_two a4M (k:=k') r;exact⟨λd e2=>(z.1 d e2).elim λv q=>⟨v,by rw[←q.1];exact .k e,q.2⟩,λe2=>by rw[←z.2 e2];exact .k e⟩
 .have z:=val_two a4N (k:=ks) r;exact⟨λd e2=>(z.1 d e2).elim λv q=>⟨v,by rw[←q.1];exact .t e eb,q.2⟩,λe2=>by rw[←z.2 e2];exact .t e eb⟩
theorem a68.any{K:Fg}{k:DK}(h:a68 K H a vy kvs k):∃o,yG H a vy o/\o.isSome=(nP kvs k).isSome/\∀d v,RD K H d v->RD K H ((nP kvs k).getD d) (o.getD v):=by
 have z:=h.get;cases e:nP kvs k with
 |none=>exact⟨aq,z.2 e,rfl,λd v r=>r⟩
 |some d=>obtain⟨v,g,r⟩:=z.1 d e;exact⟨aj v,g,rfl,λ_ _ _=>r⟩
theorem a68.put{K:Fg}{kvs:List (DK×D)}{k:DK}(g:HR K H G)(h:a68 K H a vy kvs k)(rv:RD K H d v)(hl:kvs.length<dg):∃H',ad5 H a vy v H'/\Ts H H'/\HR K H' (aL G a (.lF (xQ k) (zW kvs k d))):=by
 rcases h with⟨k',xs,rfl,e,r,rfl⟩|⟨ks,xs,b,rfl,e,r,rfl,eb⟩
 .have tt:Ts H (upd H a (.dK (putK xs k' v))):=.turn e (λ_ z=>nomatch z) (λ_ _ z=>nomatch z);exact⟨_,.k e (by rw[←r.length];exact hl),tt,g.turn (u:=.lF ao _) tt (.inl ⟨rfl,_,aF,(a4L a4M rv r).imp λ_ _ q=>⟨q.1,q.2.mono tt⟩⟩)⟩
 .have tt:Ts H (upd H a (.dT (putK xs ks v))):=.turn e (λ_ z=>nomatch z) (λ_ _ z=>nomatch z);exact⟨_,.t e eb (by rw[←r.length];exact hl),tt,g.turn (u:=.lF ak _) tt (.inr ⟨rfl,_,aF,(a4L a4N rv r).imp λ_ _ q=>⟨q.1,q.2.mono tt⟩⟩)⟩
noncomputable def a69(G:Gp)(a:bx):Option (Bool×List (DK×D)):=match G a with
 |some (.lF t kvs)=>aj (t,kvs)
 |some (.rdc _ t kvs)=>aj (t,kvs)
 |_=>aq
set_option tactic.hygienic true in
theorem apA{K:Fg}{t:Bool}(g:HR K H G)(e:a69 G a=aj (t,kvs)) :
  (t=ao/\∃xs:List (Key×V),Rd H a (.dK xs)/\xG K H .inl kvs xs)∨(t=ak/\∃xs:List (List Key×V),Rd H a (.dT xs)/\xG K H .inr kvs xs):=by
 unfold a69 at e;split at e
 .rename_i t' kvs' q;cases e;rcases g a _ q with⟨z,xs,e2,tw⟩|⟨z,xs,e2,tw⟩
  .exact .inl ⟨z,xs,.inl e2,tw⟩
  .exact .inr ⟨z,xs,.inl e2,tw⟩
 .rename_i o t' kvs' q;cases e;rcases g a _ q with⟨z,xs,e2,tw⟩|⟨z,xs,e2,tw⟩
  .exact .inl ⟨z,xs,.inr ⟨o,e2⟩,tw⟩
  .exact .inr ⟨z,xs,.inr ⟨o,e2⟩,tw⟩
 .cases e
def a6A(x y:D)(G:Gp)(P:List (DK×D)->DK->Prop):Prop:=match x with
 |.ref a=>(match a69 G a,a8V y with
  |some (t,kvs),aj k=>xQ k=t/\P kvs k
  |_,_=>False)
 |_=>False
set_option tactic.hygienic true in
theorem alF{K:Fg}{x:D}(rx:RD K H x vx)(ry:RD K H y vy)(g:HR K H G)(h:a6A x y G P) :
  ∃a kvs k,x=.ref a/\vx=.ref a/\P kvs k/\∀d,nP kvs k=aj d->∃v,yG H a vy (aj v)/\RD K H d v:=by
 unfold a6A at h;split at h
 .rename_i a;split at h
  .rename_i t kvs k e1 e2;obtain⟨rfl,h⟩:=h;cases rx;refine⟨a,kvs,k,rfl,rfl,h,λd ed=>?_⟩;rcases apA g e1 with⟨z,xs,e3,r⟩|⟨z,xs,e3,r⟩
   .rcases abO ry e2 with⟨k',rfl,rfl⟩|⟨ks,b,rfl,_⟩
    .obtain⟨v,e4,rv⟩:=(val_two a4M (k:=k') r).1 d ed;exact⟨v,.inl ⟨xs,k',e3,rfl,e4.symm⟩,rv⟩
    .cases z
   .rcases abO ry e2 with⟨k',rfl,rfl⟩|⟨ks,b,rfl,rfl,eb⟩
    .cases z
    .obtain⟨v,e4,rv⟩:=(val_two a4N (k:=ks) r).1 d ed;exact⟨v,.inr ⟨xs,ks,b,e3,rfl,eb,e4.symm⟩,rv⟩
  .exact h.elim
 .exact h.elim
noncomputable def abP:R3:=λx y G R=>a6A x y G λkvs k=>match nP kvs k with
 |some d=>R d G
 |none=>False
noncomputable def pH:R3:=λx y G R=>match y with
 |.tup ds=>(match x with
  |.ref a=>(match G a with
   |some (.zJ kvs)=>∃(n:List Int)(d:D),ds=n.map D.int/\kvs.lookup n=aj d/\R d G
   |_=>False)
  |_=>False)
 |_=>abP x y G R
noncomputable def ae2:R3:=λx y G R=>match x,y with
 |.tup ds,.ref a=>(match G a with
  |some (.zJ kvs)=>∃n:List Int,ds=n.map D.int/\R (.bl (kvs.lookup n).isSome) G
  |_=>False)
 |_,_=>pY y x G λ_ _ kvs k=>R (.bl (nP kvs k).isSome) G
noncomputable def apB:R3:=λx y G R=>pY y x G λ_ _ kvs k=>R (.bl (!(nP kvs k).isSome)) G
variable{X:Cx}{s:cj}
theorem a6B{ks:List Key}(I:Inv X pins σ H s)(h:oH X.K H b (ks.map kV)):(zu (bH X.prog X.w)).is s.heap ks b:=by
 obtain⟨its,r,⟨o,h1,h2,n,h3⟩,_⟩:=I.tuple h;exact⟨o,its.toArray,n,h1,h2,h3,by simpa using a1F r⟩
theorem avU{w:iy}(h:x.1=(toI x.1).map Sum.inl):entryOfKey (zu (bH P w)) x=entryOfKey (zu (bH P' w')) x:=by
 have e:x.1.map (bH P w).hash=x.1.map (bH P' w').hash:=by
  rw[h,mj,mj];rfl
 show(⟨reduceHash (Builtin.Tuple.tupleHashOf (x.1.map (bH P w).hash)),_,_⟩:DictEntry)=⟨reduceHash (Builtin.Tuple.tupleHashOf (x.1.map (bH P' w').hash)),_,_⟩;rw[e]
theorem aj6{K:Fg}:∀{n:List Int}{vs:List V},bQ K H (n.map D.int) vs->vs=(n.map (Sum.inl:Int->Key)).map kV
 |[],_,.nil=>rfl
 |i::r,_,.cons h t=>by
  cases h;rw[aj6 t];rfl
theorem aJB{a b:List Int}(h:a.map (Sum.inl:Int->Key)=b.map Sum.inl):a=b:=by rw[←abB a,h,abB]
variable{n:List Int}
theorem apC{K:Fg}{kvs:List (List Int×D)}(r:Paired (KmR K H) kvs xs):(kvs.lookup n=aq/\atKey xs (n.map Sum.inl)=aq)∨∃d p,kvs.lookup n=aj d/\atKey xs (n.map Sum.inl)=aj p/\PlV d p.2:=by
 induction r with
 |nil=>exact .inl ⟨rfl,rfl⟩
 |@cons p x kvs xs h r ih =>
  obtain⟨m,d⟩:=p;unfold atKey at ih ⊢;by_cases c:n=m
  .subst c;refine .inr ⟨d,x.2,by rw[jo,beq_self_eq_true],?_,h.2.2⟩;rw[List.find?_cons_of_pos (by rw[h.1];exact decide_eq_true rfl)];rfl
  .have c2:¬ x.1=n.map Sum.inl:=λe=>c (aJB (e.symm.trans h.1));rw[List.find?_cons_of_neg (by simpa using c2),jo,show(n==m)=ao from beq_eq_false_iff_ne.mpr c];exact ih
theorem aD9{K:Fg}(r:Paired (KmR K H) kvs xs):∀x∈xs,x.1=(toI x.1).map Sum.inl/\oH K H x.2.1 (x.1.map kV):=by
 induction r with
 |nil=>exact λx hx=>nomatch hx
 |cons h r ih =>
  intro x hx;rcases jm.mp hx with rfl|hx
  .exact⟨by rw[h.1,abB],h.2.1⟩
  .exact ih x hx
theorem abQ(I:Inv X pins σ H s)(g:HR X.K H G)(e:G a=aj (.zJ kvs)):∃o xs,H a=aj o/\Mut (aj o)/\(∀ys,o≠.tup ys)/\(∀p u,o≠.gK p u)/\Paired (KmR X.K H) kvs xs/\(a==vd)=ao/\s.heap.DictOfH (zu (bH X.prog X.w)) a xs:=by
 obtain⟨o,e3,q⟩:=g a _ e;rcases q with⟨rfl,rfl⟩|⟨P,w,xs,rfl,r⟩
 .obtain⟨_,hd,ws,rel,o,es,ep,h1,h2,h3,h4,_⟩:=anN I.hok e3;cases rel;exact⟨_,[],e3,True.intro,(λ_ z=>nomatch z),(λ_ _ z=>nomatch z),.nil,hd,⟨o,es,ep,h1,h2,h3,h4,(λx hx=>nomatch hx),a1B⟩⟩
 .obtain⟨⟨hd,o,es,ep,h1,h2,h3,h4,h5⟩,_⟩:=(show dM X.prog X.w H s.heap a (.ext _)from I.hok a _ e3);have al:=aD9 r;exact⟨_,xs,e3,True.intro,(λ_ z=>nomatch z),(λ_ _ z=>nomatch z),r,hd,⟨o,es,ep,h1,h2,h3,by rw[h4];exact a1o λx hx=>avU (al x hx).1,λx hx=>a6B I (al x hx).2,h5⟩⟩
theorem a4O{K:Fg}(r:RD K H (.tup (n.map D.int)) v):∃b,v=.ref b/\oH K H b ((n.map (Sum.inl:Int->Key)).map kV):=by
 cases r with
 |@tup b xs _ sq rb _ =>
 have:=aj6 rb;subst this;exact⟨b,rfl,sq⟩
theorem PlV.rd{K:Fg}(h:PlV d u):∃v,RelV v u/\RD K H d v:=by
 rcases h with⟨i,t,rfl,rfl⟩|⟨b,rfl,rfl⟩
 .exact⟨.int i,⟨t,rfl⟩,.int i⟩
 .exact⟨.bl b,rfl,.bl b⟩
noncomputable def a1P(kvs:List (List Int×D))(n:List Int)(d:D):List (List Int×D):=if(kvs.lookup n).isSome then kvs.map (λp=>if p.1=n then(p.1,d)else p)else kvs++[(n,d)]
theorem apD{K:Fg}(h:(∃i,d=.int i)∨∃b,d=.bl b)(r:RD K H d v)(rv:RelV v u):PlV d u:=by
 rcases h with⟨i,rfl⟩|⟨b,rfl⟩
 .cases r;obtain⟨t,rfl⟩:=rv;exact .inl ⟨i,t,rfl,rfl⟩
 .cases r;exact .inr ⟨b,rfl,rv⟩
theorem apE{K:Fg}(r:Paired (KmR K H) kvs xs)(sq:oH K H b ((n.map (Sum.inl:Int->Key)).map kV))(pl:PlV d u):Paired (KmR K H) (a1P kvs n d) (a1k xs (n.map Sum.inl) b u):=by
 unfold a1P;rcases apC (n:=n) r with⟨z1,z2⟩|⟨d',p,z1,z2,_⟩
 .rw[z1,storedH_new z2];exact Paired.snoc r ⟨rfl,sq,pl⟩
 .rw[z1,storedH_old z2];show Paired (KmR K H) (kvs.map _) _;clear z1 z2
  induction r with
  |nil=>exact .nil
  |@cons q x kvs xs h r ih =>
   refine .cons ?_ ih;unfold putAt;show KmR K H (if q.1=n then(q.1,d)else q) _;by_cases c:q.1=n
   .rw[if_pos c,if_pos (by rw[h.1,c])];exact⟨h.1,h.2.1,pl⟩
   .rw[if_neg c,if_neg (λe=>c (aJB (h.1.symm.trans e)))];exact h
section
variable{X:Cx}{to ti tv te tf:cB}{pos:Pos}
set_option tactic.hygienic true in
theorem aJC(hu:X.A.units+64<kh)(ho:cF X o to)(hi:cF X i ti)(hs:aHB i):cF X (.Subscript o i pos) (aG pH to ti):=by
 intro pins s σ H Q I h _tk;obtain⟨ρ,G,R,sr,g,t,k⟩:=h
 refine auH PySem.F.slot_dict_getitem.lookup hs (cL (ho pins s σ H (λv H1=>Ts H H1/\∃x G1,RD X.K H1 x v/\HR X.K H1 G1/\ti ρ G1 λy G2=>pH x y G2 R) I ⟨ρ,G,_,sr,g,t,λv H1 d G1 t1 r1 g1 q1=>⟨t1,d,G1,r1,g1,q1⟩⟩) λu s1 ⟨vx,H1,I1,rx,t1,x,G1,rdx,g1,q1⟩ =>
  cL (hi pins s1 σ H1 (λv H2=>Ts H1 H2/\∃y G2,RD X.K H2 y v/\HR X.K H2 G2/\pH x y G2 R) I1 ⟨ρ,G1,_,sr.mono t1,g1,q1,λv H2 d G2 t2 r2 g2 q2=>⟨t2,d,G2,r2,g2,q2⟩⟩) λiv s2 ⟨vy,H2,I2,ry,t2,y,G2,rdy,g2,q2⟩=>?_)
 have fin:∀{d v ad},x=.ref ad->yG H2 ad vy (aj v)->RD X.K H2 d v->R d G2->s2.TypeIs u "dict"/\cu (fj X.prog X.w) X.A (getItem u iv) (λw' s3=>∃v H',Inv X pins σ H' s3/\RelV v w'/\Q v H') X.xe s2:=λ{d v ad} ex gg rv q=>by
  subst ex;have hu:u=bh.ref ad:=by cases rdx;exact rx
  subst hu;exact⟨ad6 I2 gg,akT (by omega) I2 gg ry λw' s3 I3 rw'=>⟨v,H2,I3,rw',k v H2 d G2 (t1.trans t2) rv g2 q⟩⟩
 cases y with
 |tup ds =>
  cases x with
  |ref ad =>
   replace q2:(match G2 ad with
    |some (.zJ kvs)=>∃(n:List Int)(d:D),ds=n.map D.int/\kvs.lookup n=aj d/\R d G2
    |_=>False):=q2
   have hx:u=bh.ref ad:=by cases rdx;exact rx
   subst hx;split at q2
   .rename_i kvs e1;obtain⟨n,d,rfl,ed,q2⟩:=q2;obtain⟨b,rfl,sq⟩:=a4O rdy;obtain rfl:iv=bh.ref b:=ry;obtain⟨_,xs,_,_,_,_,r,hd,dd⟩:=abQ I2 g2 e1;rcases apC (n:=n) r with⟨z,_⟩|⟨d',p,z1,z2,pl⟩
    .rw[z]at ed;cases ed
    .rw[z1]at ed;cases ed;obtain⟨v,rv,rd⟩:=pl.rd (K:=X.K) (H:=H2);exact⟨dd.typeIs,wpAny_getItem_heap (vq (by omega)) (a6B I2 sq) dd z2 ⟨v,H2,I2.tok _,rv,k v H2 _ G2 (t1.trans t2) rd g2 q2⟩⟩
   .exact q2.elim
  |_=>exact q2.elim
 |_ =>
  obtain⟨ad,kvs,kk,ex,_,q,dd⟩:=alF (rdx.mono t2) rdy g2 q2;split at q
  .rename_i d e2;obtain⟨v,gg,rv⟩:=dd d e2;exact fin ex gg rv q
  .exact q.elim
set_option tactic.hygienic true in
theorem aJE(hu:X.A.units+64<kh):lU X (jg .In) ae2:=a1K λpins s σ H x y vx vy u v G R Q I rx ry ru rv g q k=>by
 unfold ae2 at q;split at q
 .rename_i ds a;split at q
  .rename_i kvs e1;obtain⟨n,rfl,q⟩:=q;cases ry;obtain rfl:v=bh.ref a:=rv;obtain⟨b,rfl,sq⟩:=a4O rx;obtain rfl:u=bh.ref b:=ru;obtain⟨_,xs,_,_,_,_,r,hd,dd⟩:=abQ I g e1;refine wpAny_in_heap (vq (by omega)) (a6B I sq) hd dd ?_
   have e:(atKey xs (n.map Sum.inl)).isSome=(kvs.lookup n).isSome:=by
    rcases apC (n:=n) r with⟨z1,z2⟩|⟨_,_,z1,z2,_⟩<;>rw[z1,z2]<;>rfl
   rw[e];exact⟨.bl _,H,I.tok _,rfl,k _ H (.bl _) G (.refl H) (.bl _) g q⟩
  .exact q.elim
 .obtain⟨a,kvs,kk,rfl,rfl,e1,_,q,dd⟩:=uW ry rx g q;obtain⟨o,gg,eo,_⟩:=dd.any;obtain rfl:v=bh.ref a:=rv;exact aMY (by omega) I gg ru λs' I'=>⟨.bl o.isSome,H,I',rfl,k _ H (.bl _) G (.refl H) (.bl _) g (by rw[eo];exact q)⟩
theorem aDA(hu:X.A.units+64<kh):lU X (jg .NotIn) apB:=a1K λpins s σ H x y vx vy u v G R Q I rx ry ru rv g q k=>by
 obtain⟨a,kvs,kk,rfl,rfl,e1,_,q,dd⟩:=uW ry rx g q;obtain⟨o,gg,eo,_⟩:=dd.any;obtain rfl:v=bh.ref a:=rv;exact auG (by omega) I gg ru λs' I'=>⟨.bl (!o.isSome),H,I',rfl,k _ H (.bl _) G (.refl H) (.bl _) g (by rw[eo];exact q)⟩
def ae3(x y v:D)(F:cQ)(ρ:aN)(G:Gp):Prop:=pY x y G λa t kvs k=>kvs.length<dg/\F.nx ρ (aL G a (.lF t (zW kvs k v)))
noncomputable def abR(to ti tv:cB):bI:=λF ρ G=>tv ρ G λv G1=>to ρ G1 λx G2=>ti ρ G2 λy G3=>ae3 x y v F ρ G3
theorem aDB(hu:X.A.units+64<kh)(ho:cF X o to)(hi:cF X i ti)(hv:cF X value tv)(hs:a0z value (aj (.Subscript o i pos')) pos.line X.env=pure ao):PS3 X (.Assign [.Subscript o i pos'] value pos) (abR to ti tv):=by
 refine PS.imp (auI (by omega) ho hi hv hs) λF σ H h=>?_;obtain⟨ρ,G,E,s,g,t,u⟩:=h;refine⟨ρ,G,_,s,g,t,λv H1 d G1 t1 rv g1 t'=>?_⟩;refine⟨ρ,G1,_,s.mono t1,g1,t',λvx H2 x G2 t2 rx g2 t''=>?_⟩;refine⟨ρ,G2,_,s.mono (t1.trans t2),g2,t'',λvy H3 y G3 t3 ry g3 t4=>?_⟩;obtain⟨a,kvs,kk,rfl,rfl,e1,_,⟨hl,q⟩,dd⟩:=uW (rx.mono t3) ry g3 t4;obtain⟨H4,pp,tt,g4⟩:=dd.put g3 (rv.mono (t2.trans t3)) hl;exact⟨a,H4,rfl,pp,u.nx ρ _ σ _ (s.mono (((t1.trans t2).trans t3).trans tt)) g4 q⟩
def a1Q(x:D)(G:Gp):Prop:=match x with
 |.ref a=>(match G a with
  |some (.lF _ _)=>True
  |_=>False)
 |_=>False
set_option tactic.hygienic true in
theorem alG{K:Fg}{x:D}(rx:RD K H x vx)(g:HR K H G)(h:a1Q x G):∃a,x=.ref a/\vx=.ref a/\IsD H a:=by
 unfold a1Q at h;split at h
 .rename_i a;split at h
  .rename_i t kvs e;cases rx;rcases g a _ e with⟨_,xs,e2,_⟩|⟨_,xs,e2,_⟩
   .exact⟨a,rfl,rfl,.inl ⟨xs,.inl e2⟩⟩
   .exact⟨a,rfl,rfl,.inr ⟨xs,.inl e2⟩⟩
  .exact h.elim
 .exact h.elim
noncomputable def a4P(to te tf:cB):cB:=λρ G R=>to ρ G λx G1=>a1Q x G1/\te ρ G1 λy G2=>tf ρ G2 λz G3=>pY x y G3 λ_ _ kvs k=>R ((nP kvs k).getD z) G3
theorem avV(hu:X.A.units+64<kh)(ho:cF X o to)(he:cF X e te)(hf:cF X f tf)(m:M2 X o "get" apos e f cpos):cF X (.Call (.Attribute o "get" apos) [e,f] [] cpos) (a4P to te tf):=by
 refine PE.imp (anS (by omega) ho he hf m) λσ H Q h=>?_;obtain⟨ρ,G,R,s,g,t,k⟩:=h;refine⟨ρ,G,_,s,g,t,λvx H1 x G1 t1 rx g1 t'=>?_⟩;obtain⟨isd,t'⟩:=t';obtain⟨a,rfl,rfl,ia⟩:=alG rx g1 isd;refine⟨a,rfl,ia,?_⟩;refine⟨ρ,G1,_,s.mono t1,g1,t',λvy H2 y G2 t2 ry g2 t''=>?_⟩;refine⟨ρ,G2,_,s.mono (t1.trans t2),g2,t'',λvz H3 z G3 t3 rz g3 t4=>?_⟩;obtain⟨a',kvs,kk,e,_,e1,_,q,dd⟩:=uW (rx.mono (t2.trans t3)) (ry.mono t3) g3 t4;cases e;obtain⟨o,gg,eo,hd⟩:=dd.any;exact⟨o,gg,k _ H3 _ G3 ((t1.trans t2).trans t3) (hd z vz rz) g3 q⟩
end
end
section
section
variable{K:Type}[DecidableEq K]{k:K}{xs:List (K×bx×bh)}
noncomputable def ae4(xs:List (K×bx×bh))(k:K):List (K×bx×bh):=xs.filter λx=>decide (x.1≠k)
end
theorem KT.drop(r:KT H kvs xs)(k:List Key):KT H (aiF kvs k) (ae4 xs k):=by
 unfold aiF ae4
 induction r with
 |nil=>exact .nil
 |@cons p q ps qs h t ih =>
  rw[a0c,a0c];by_cases e:p.1=k
  .rw[if_neg (by simp[e]),if_neg (by simp[h.1.symm.trans e])];exact ih
  .rw[if_pos (by simp[e]),if_pos (by simp;exact λz=>e (h.1.trans z))];exact .cons h ih
section
end
end
variable{p:Array Nat}{m:Nat}
section
open PySem.W
variable{i:Nat}
section
variable{cmp:Nat->Nat->(Bool->cj->Prop)->cj->Prop}{I:cj->Prop}{kf:Nat->Int}
noncomputable def ky(kf:Nat->Int)(p:Array Nat)(i:Nat):Int:=kf (p.getD i 0)
def Up(kf:Nat->Int)(p:Array Nat)(k:Nat):Prop:=∀i j,i<=j->j<k->ky kf p i<=ky kf p j
def Down(kf:Nat->Int)(p:Array Nat)(k:Nat):Prop:=∀i j,i<j->j<k->ky kf p j<ky kf p i
def Asks(cmp:Nat->Nat->(Bool->cj->Prop)->cj->Prop)(I:cj->Prop)(kf:Nat->Int)(n:Nat):Prop:=∀i j C s,i<n->j<n->I s->(∀s',I s'->C (decide (kf i<kf j)) s')->cmp i j C s
structure Pm(n:Nat)(p:Array Nat):Prop where
 size:p.size=n
 perm:p.toList.Perm (jy n)
theorem Pm.lt(h:Pm n p)(hi:i<n):p.getD i 0<n:=by
 have hs:i<p.size:=by rw[h.size];exact hi
 have e:p.getD i 0=p[i]:=by simp[Array.getD,hs]
 rw[e];exact xg.mp (h.perm.mem_iff.mp (by simp))
theorem Pm.inj(h:Pm n p)(hi:i<n)(hj:j<n)(e:p.getD i 0=p.getD j 0):i=j:=by
 have hs:i<p.size:=by rw[h.size];exact hi
 have ht:j<p.size:=by rw[h.size];exact hj
 have nd:p.toList.Nodup:=(h.perm.nodup_iff).mpr List.nodup_range;have e1:p.getD i 0=p[i]:=by simp[Array.getD,hs]
 have e2:p.getD j 0=p[j]:=by simp[Array.getD,ht]
 rw[e1,e2]at e;have key:=List.pairwise_iff_getElem.mp nd;have hs':i<p.toList.length:=by simpa using hs
 have ht':j<p.toList.length:=by simpa using ht
 rcases Nat.lt_trichotomy i j with c|c|c
 .exact absurd (by simpa using e) (key i j hs' ht' c)
 .exact c
 .exact absurd (by simpa using e.symm) (key j i ht' hs' c)
theorem dO{q:Array Nat}(h:p[i]?=q[j]?):p.getD i 0=q.getD j 0:=by
 rw[Array.getD_eq_getD_getElem?,Array.getD_eq_getD_getElem?,h]
theorem abS{k:Nat}(hn:n<=p.size)(hk:k<n):ky kf (kas_rev p 0 n) k=ky kf p (n - 1 - k):=by
 unfold ky kas_rev;have e:=getElem?_mirror_all (xs:=p) (i:=0) (j:=n) hn k;rw[if_pos ⟨vm _,hk⟩,Nat.zero_add]at e;rw[dO e]
theorem Pm.rev(h:Pm n p):Pm n (kas_rev p 0 m):=⟨by rw[kas_rev_size];exact h.size,((mirror_perm p 0 m _).toList).trans h.perm⟩
theorem Down.up(hn:n<=p.size)(h:Down kf p n):Up kf (kas_rev p 0 n) n:=λi j hij hj=>by
 rw[abS hn (by omega),abS hn hj];by_cases c:i=j
 .subst c;exact a0n _
 .exact a2o (h (n - 1 - j) (n - 1 - i) (by omega) (by omega))
theorem ah3{n:Nat}(hc:Asks cmp I kf n){p:Array Nat}(P:Pm n p):∀(f a:Nat)(s:cj),1<=a->a+f<=n->Up kf p a->I s->(∀m s',a<=m->m<=a+f->Up kf p m->(m<a+f->ky kf p m<ky kf p (m - 1))->I s'->Q m s')->(kas_asc p f a).kasWp cmp Q s
 |0,a,s,h1,h2,u,i,h=>h a s (dw _) (dw _) u (λz=>absurd z (ud _)) i
 |f+1,a,s,h1,h2,u,i,h=>by
  show cmp (p.getD a 0) (p.getD (a - 1) 0) _ s;refine hc _ _ _ s (P.lt (by omega)) (P.lt (by omega)) i λs' i'=>?_;by_cases c:kf (p.getD a 0)<kf (p.getD (a - 1) 0)
  .rw[decide_eq_true c];dsimp only;rw[if_pos rfl];exact h a s' (dw _) (by omega) u (λ_=>c) i'
  .rw[decide_eq_false c];dsimp only;rw[if_neg (by decide)];refine ah3 hc P f (a+1) s' (by omega) (by omega) (λx y hxy hy=>?_) i' λm s2 l1 l2 u2 l3 i2=>h m s2 (by omega) (by omega) u2 (λz=>l3 (by omega)) i2;by_cases cy:y<a
   .exact u x y hxy cy
   .have ey:y=a:=by omega
    subst ey;by_cases cx:x=y
    .subst cx;exact a0n _
    .have:=u x (y - 1) (by omega) (by omega);have c':ky kf p (y - 1)<=ky kf p y:=by unfold ky;omega
     omega
theorem a6C{n:Nat}(hc:Asks cmp I kf n){p:Array Nat}(P:Pm n p){k:Nat}(hk:k<n)(u:Up kf p k):∀(f l r:Nat)(s:cj),l<=r->r<=k->r - l<=f->(∀x,x<l->ky kf p x<=ky kf p k)->(∀x,r<=x->x<k->ky kf p k<ky kf p x)->I s ->
   (∀m s',m<=k->(∀x,x<m->ky kf p x<=ky kf p k)->(∀x,m<=x->x<k->ky kf p k<ky kf p x)->I s'->Q m s')->(kas_place p k f l r).kasWp cmp Q s
 |0,l,r,s,h1,h2,h3,a,b,i,h=>h l s (by omega) a (λx hx=>b x (by omega)) i
 |f+1,l,r,s,h1,h2,h3,a,b,i,h=>by
  unfold kas_place;by_cases c0:l≥r
  .rw[if_pos c0];exact h l s (by omega) a (λx hx=>b x (by omega)) i
  .rw[if_neg c0];show cmp (p.getD k 0) (p.getD ((l+r) / 2) 0) _ s;refine hc _ _ _ s (P.lt (by omega)) (P.lt (by omega)) i λs' i'=>?_;by_cases c:kf (p.getD k 0)<kf (p.getD ((l+r) / 2) 0)
   .rw[decide_eq_true c];dsimp only;rw[if_pos rfl];refine a6C hc P hk u f l ((l+r) / 2) s' (by omega) (by omega) (by omega) a (λx hx hxk=>?_) i' h;have:=u ((l+r) / 2) x hx hxk;have c':ky kf p k<ky kf p ((l+r) / 2):=c;omega
   .rw[decide_eq_false c];dsimp only;rw[if_neg (by decide)];refine a6C hc P hk u f ((l+r) / 2+1) r s' (by omega) (by omega) (by omega) (λx hx=>?_) b i' h;have:=u x ((l+r) / 2) (by omega) (by omega);have c':ky kf p ((l+r) / 2)<=ky kf p k:=by unfold ky;omega
    omega
theorem apF{n:Nat}(hc:Asks cmp I kf n):∀(f k:Nat)(p:Array Nat)(s:cj),Pm n p->1<=k->k+f=n->Up kf p k->I s->(∀q s',Pm n q->Up kf q n->I s'->Q q s')->(kas_bin f p k).kasWp cmp Q s
 |0,k,p,s,P,h1,h2,u,i,h=>h p s P (by rw[←h2];exact u) i
 |f+1,k,p,s,P,h1,h2,u,i,h=>by
  unfold kas_bin;rw[KasT.kasWp_bind];refine a6C hc P (by omega) u k 0 k s (vm _) (dw _) (by omega) (λx hx=>absurd hx (Nat.not_lt_zero _)) (λx hx hk=>absurd hx (by omega)) i λm s' l1 a b i'=>?_;have hs:k<p.size:=by rw[P.size];omega
  refine apF hc f (k+1) _ s' ⟨by rw[bubble_size];exact P.size,((bubble_perm p k _).toList).trans P.perm⟩ (by omega) (by omega) (λx y hxy hy=>?_) i' h
  have e:∀z,ky kf (bubble p k (k - m)) z=if z=m then ky kf p k else if m<z/\z<=k then ky kf p (z - 1)else ky kf p z:=λz=>by
   have e:=getElem?_bubble hs (k - m) (by omega) z;rw[show k - (k - m)=m by omega]at e;by_cases c:z=m
   .rw[if_pos c]at e ⊢;exact congrArg kf (dO e)
   .rw[if_neg c]at e ⊢;by_cases c2:m<z/\z<=k
    .rw[if_pos c2]at e ⊢;exact congrArg kf (dO e)
    .rw[if_neg c2]at e ⊢;exact congrArg kf (dO e)
  have e1:ky kf (bubble p k (k - m)) m=ky kf p k:=by rw[e,if_pos rfl]
  have e2:∀z,m<z->z<=k->ky kf (bubble p k (k - m)) z=ky kf p (z - 1):=λz h1 h2=>by rw[e,if_neg (by omega),if_pos ⟨h1,h2⟩]
  have e3:∀z,z<m->ky kf (bubble p k (k - m)) z=ky kf p z:=λz h1=>by rw[e,if_neg (by omega),if_neg (by omega)]
  rcases Nat.lt_trichotomy x m with c|c|c
  .rw[e3 x c];rcases Nat.lt_trichotomy y m with d|d|d
   .rw[e3 y d];exact u x y hxy (by omega)
   .rw[d,e1];exact a x c
   .rw[e2 y d (by omega)];exact u x (y - 1) (by omega) (by omega)
  .rw[c,e1];by_cases d:y=m
   .rw[d,e1];exact a0n _
   .rw[e2 y (by omega) (by omega)];exact a2o (b (y - 1) (by omega) (by omega))
  .rw[e2 x c (by omega),e2 y (by omega) (by omega)];exact u (x - 1) (y - 1) (by omega) (by omega)
end
section
variable{prog:jt}{w:iy}{A:iw}{s:cj}
noncomputable def aJG(prog:jt)(w:iy)(A:iw)(s:cj)(kf:Nat->Int)(vs:List bh)(h':jj):Prop :=
 ∃κ,(∀Q:SortKind->cj->Prop,Q κ {s with heap:=h' }->cu (fj prog w) A (keyKind' vs.toArray) Q (λ_ _=>False) {s with heap:=h' })/\∀i j (C:Bool->cj->Prop),i<vs.length->j<vs.length->C (decide (kf i<kf j)) {s with heap:=h' }->kas_ask prog w A κ vs i j C {s with heap:=h' }
end
def aJH(a b:Int×Int):Prop:=a.1<b.1∨(a.1=b.1/\a.2<b.2)
instance (a b:Int×Int):Decidable (aJH a b):=by unfold aJH;infer_instance
section
def abT(h:jj)(ps:List (Int×Int))(vs:List bh):Prop:=vs.length=ps.length/\∀(i:Nat)(p:Int×Int),ps[i]?=aj p->∃(a:bx)(o:Obj)(n:Nat)(x y:Tok),vs[i]?=aj (bh.ref a)/\h.get? a=aj o/\o.cls=bh.type "tuple"/\o.data=.seq #[.int p.1 x,.int p.2 y] n
theorem abT.firsts:∀{ps:List (Int×Int)}{vs:List bh},abT h ps vs->∃fs:List bh,KatTups h vs fs/\fs.length=ps.length/\∀v∈fs,∃i t,v=.int i t
 |[],[],_=>⟨[],trivial,rfl,λv h=>by cases h⟩
 |[],_::_,H=>absurd H.1 (by simp)
 |_::_,[],H=>absurd H.1 (by simp)
 |p::ps,v::vs,H=>by
  obtain⟨a,o,n,x,y,e1,e2,e3,e4⟩:=H.2 0 p rfl;obtain⟨fs,k1,k2,k3⟩:=abT.firsts (h:=h) (ps:=ps) (vs:=vs) ⟨by simpa using H.1,λi q hq=>by simpa using H.2 (i+1) q (by simpa using hq)⟩;have e1':v=.ref a:=by simpa using e1
  subst e1';refine⟨.int p.1 x::fs,KatTups.cons e2 e3 e4 rfl k1,by simp[k2],λu hu=>?_⟩;rcases jm.mp hu with rfl|hu
  .exact⟨_,_,rfl⟩
  .exact k3 u hu
end
end
section
open PySem.W
section
theorem aa6{xs:List V}{us:List bh}(r:Vals xs us):∀{l:List Nat},(∀i∈l,i<xs.length)->Vals (l.map λi=>xs.getD i .non) (l.map λi=>us.getD i bh.none)
 |[],_=>.nil
 |i::l,h=>by
  have hi:=h i (by simp);obtain⟨u,e1,ru⟩:=r.get (gw hi);have e2:xs.getD i .non=xs[i]:=by simp[a1b,hi]
  have e3:us.getD i bh.none=u:=by simp[a1b,e1]
  refine .cons ?_ (aa6 r λj hj=>h j (by simp[hj]));show RelV (xs.getD i .non) (us.getD i bh.none);rw[e2,e3];exact ru
end
end
section
open PySem.W
def tQ(h:jj)(d:bx)(es:Array DictEntry)(ep:Nat):Prop:=∃o,h.get? d=aj o/\o.ExactDict/\o.data=.dict es ep
variable{h:jj}
section
variable{prog:jt}{w:iy}{A:iw}{s:cj}{es:Array DictEntry}{ep i:Nat}
theorem tQ.typeIs(hm:tQ s.heap d es ep):s.TypeIs (.ref d) "dict":=let⟨o,ho,hc,_⟩:=hm;⟨o,ho,hc.1⟩
theorem tQ.lt(hm:tQ h d es ep):d<h.objs.size:=let⟨_,ho,_⟩:=hm;gk ho
theorem tQ.at{h':jj}(hm:tQ h d es ep)(k:∀o,h.get? d=aj o->h'.get? d=aj o):tQ h' d es ep:=let⟨o,ho,r⟩:=hm;⟨o,k o ho,r⟩
theorem avW(hd:(d==vd)=ao)(hm:tQ s.heap d es ep)(hQ:Q (.ref s.heap.objs.size) {s with heap:=s.heap.push {cls:=.type "dict_keyiterator",data:=.fields #[.ref d,.int 0 0,.int es.size 0,.int ep 0]}}):cu (fj prog w) A (pyIter (.ref d)) Q E s:=by
 have T:=hm.typeIs;obtain⟨o,ho,hc,hdat⟩:=hm;refine wpAny_pyIter_slot T F.slot_dict_iter (a0b F.slot_dict_iter T F.entry_dict_iter ?_ (F.args_dict_iter_1 _));unfold Builtin.«dict.__iter__»;refine au ?_;unfold Builtin.Dict.dictSlotNone;refine au (wpAny_notOrdered_dict T ?_);show cu _ _ (pure (bh.ref d)) _ _ s;refine dh ?_;show cu _ _ (Builtin.Dict.showsAll d >>= _) _ _ s;unfold Builtin.Dict.showsAll;rw[if_neg (by rw[hd];exact ou)];refine au (dh (au (wpAny_dictEntries ho hdat (au (wpAny_dictEpoch ho hdat (au (ni (dh ⟨_,rfl,"dict_keyiterator",_,⟨_,gV _ rfl,rfl⟩,F.slot_dict_keyiterator_next.lookup,?_⟩))))))));simpa[yg]using hQ
theorem avX{e:DictEntry}(hit:s.heap.IsKeyIter it d i es.size ep)(hm:tQ s.heap d es ep)(hx:es[i]?=aj e)
  (hQ:∀h',h'.IsKeyIter it d (i+1) es.size ep->qw it s.heap h'->Q (aj e.key) {s with heap:=h' }):cu (fj prog w) A (zc (.ref it)) Q E s:=by
 obtain⟨o,ho,hc,hd⟩:=id hit;obtain⟨od,hod,hcd,hdd⟩:=hm;have lt:i<es.size:=(a0j.mp hx).1;unfold zc;refine au (a2e (yx (name:=Str.ofString "__next__") hit.typeIs F.slot_dict_keyiterator_next (a0b F.slot_dict_keyiterator_next hit.typeIs F.entry_dict_keyiterator_next ?_ (F.args_dict_keyiterator_next_1 _))));refine au (dh ?_);refine au ?_;refine au ?_
 (first|refine au (zy hit.typeIs (dh ?_))|refine au (a0s hit.typeIs (dh ?_)));refine au (wpAny_fieldsOf ho hd ?_)
 have own:Builtin.Dict_items.ownsTuple "dict_keyiterator"=ao:=by decide
 simp only[own,qe,if_false];show cu _ _ (if(bh.ref d==bh.none)=ak then _ else _) _ _ s;rw[if_neg (show ¬ ((bh.ref d==bh.none)=ak)from ou)];refine au (dh (au (wpAny_dictEntries hod hdd ?_)));rw[if_neg (by simp)];refine au (dh (au (wpAny_dictEpoch hod hdd ?_)));rw[if_neg (by simp)];refine dh ?_;simp only[show ¬ ((i:Int)<0)from by omega,if_false,ux,hx];refine au ?_
 (first|refine au (zy hit.typeIs (dh ?_))|refine au (a0s hit.typeIs (dh ?_)));refine au (wpAny_isOneOf_keyiter hit.typeIs ?_)
 show cu _ _ (setField (.ref it) 1 (yg ((i:Int)+1)) >>= _) _ _ s;refine au (vh ho hd (by simp) ?_);have hit':(s.heap.update it (Obj.mapFields (·.setIfInBounds 1 (yg ((i:Int)+1))))).IsKeyIter it d (i+1) es.size ep:=⟨_,vg _ ho (Obj.isFreed_of_fields (Obj.data_mapFields hd _)),(Obj.cls_mapFields ..).trans hc,by rw[Obj.data_mapFields hd];simp[yg]⟩;refine au (qb (au (wpAny_isOneOf_keyiter (s:={s with heap:=s.heap.update it (Obj.mapFields (·.setIfInBounds 1 (yg ((i:Int)+1))))}) hit'.typeIs ?_)));show cu _ _ (pure e.key) _ _ _;exact dh (dh ⟨_,rfl,dh (hQ _ hit' (qw.update ..))⟩)
theorem aDC(hh:A.handled=aq)(hit:s.heap.IsKeyIter it d i es.size ep)(hm:tQ s.heap d es ep)(hx:es.size<=i)(hQ:∀h',a1i it s.heap h'->Q aq {s with heap:=h' }):cu (fj prog w) A (zc (.ref it)) Q E s:=by
 obtain⟨o,ho,hc,hd⟩:=id hit;obtain⟨od,hod,hcd,hdd⟩:=hm;unfold zc;refine au (a2e (yx (name:=Str.ofString "__next__") hit.typeIs F.slot_dict_keyiterator_next (a0b F.slot_dict_keyiterator_next hit.typeIs F.entry_dict_keyiterator_next ?_ (F.args_dict_keyiterator_next_1 _))));refine au (dh ?_);refine au ?_;refine au ?_
 (first|refine au (zy hit.typeIs (dh ?_))|refine au (a0s hit.typeIs (dh ?_)));refine au (wpAny_fieldsOf ho hd ?_)
 have own:Builtin.Dict_items.ownsTuple "dict_keyiterator"=ao:=by decide
 simp only[own,qe,if_false];show cu _ _ (if(bh.ref d==bh.none)=ak then _ else _) _ _ s;rw[if_neg (show ¬ ((bh.ref d==bh.none)=ak)from ou)];refine au (dh (au (wpAny_dictEntries hod hdd ?_)));rw[if_neg (by simp)];refine au (dh (au (wpAny_dictEpoch hod hdd ?_)));rw[if_neg (by simp)];refine dh ?_;simp only[show ¬ ((i:Int)<0)from by omega,if_false,ux,Array.getElem?_eq_none hx];refine au ?_
 (first|refine au (zy hit.typeIs (dh ?_))|refine au (a0s hit.typeIs (dh ?_)));show cu _ _ (setField (.ref it) 0 .none >>= _) _ _ s
 refine au (vh ho hd (by simp) ?_);show cu _ _ (newExc (.type "StopIteration") [] >>= _) _ _ _;refine au ?_;simp only[newExc,newTuple];refine au (ni ?_ (by size_fits));refine au (m:=firstArgMember _ _) (wpAny_of_eq (a:=Value.none) (by first|rfl|(simp only[a1x];rfl)) (ni ?_ (by size_fits)));simp only[raiseNew];refine au (wpAny_handled ?_);rw[show A.in1.handled=aq from hh];refine au (dh (wpAny_throw ?_));refine au (wpAny_isInstance (T:="StopIteration") (b:=true) ⟨_,gV _ rfl,rfl⟩ isSubtype_stop ?_);refine dh (hQ _ λb o' hb e=>?_);exact cg _ (cg _ (((qw.update _ _ _).2 b hb).trans e))
theorem apG(hh:A.handled=aq)(I:bx)(hne:d≠I):Walks prog w A I [I,d] [I] es.size (λi v=>∃e,es[i]?=aj e/\v=e.key) (λi h=>h.IsKeyIter I d i es.size ep/\tQ h d es ep) where
 sub:=λb hb=>by simp at hb;simp[hb]
 frame:=λ_ _ _ st hk=>⟨st.1.at λo e=>hk I (by simp) o e,st.2.at λo e=>hk d (by simp) o e⟩
 item:=λi s Q E hi st hQ=>by
  have hx:es[i]?=aj es[i]:=a1t hi;exact avX st.1 st.2 hx λh' hit' hs'=>hQ _ h' s.toks ⟨_,hx,rfl⟩ ⟨hit',st.2.at λo e=>hs'.extBut _ o hne e⟩ λb o hb e=>hs'.extBut b o (λh=>hb (by simp[h])) e
 done:=λs Q E st hQ=>aDC hh st.1 st.2 (dw _) λh' he'=>hQ h' s.toks λb o hb e=>he' b o (λh=>hb (by simp[h])) e
 self:=λ_ _ _ _ st hQ=>wpAny_pyIter_keyiter st.1 hQ
theorem aDD(lo:(d==vd)=ao):KdlSrc prog w "dict" d d es.size (λi v=>∃e,es[i]?=aj e/\v=e.key) (λh=>tQ h d es ep) where
 type:=λ_ hm=>hm.typeIs
 there:=λ_ hm=>⟨hm.lt,hm.lt⟩
 keep:=λ_ _ hm hk=>hm.at λo e=>hk d (.inl rfl) o e
 notList:=by decide
 notTuple:=by decide
 hint:=λ_ _ _ _ hm hq=>kdl_hint_dict hm.typeIs hq
 iter:=λ_ s hh hm=>⟨_,_,(λ_ _ hq=>avW lo hm hq),apG hh _ (jd hm.lt),⟨⟨_,gV _ rfl,rfl,rfl⟩,hm.at λo e=>cg _ e⟩⟩
end
end
section
open PySem.W
noncomputable def Itc(lo c:Int)(n:Nat):It:=⟨λi _=>i<n,λi H x H'=>H'=H/\x=.int (lo+(i:Int)*c),λi _=>n<=i⟩
theorem ae5{w:iy}{K:ig}(it:bx)(lo c:Int)(n:Nat):Turn cm tl P w K tg (Itc lo c n) [it] it (λi h=>a1j h it (lo+(i:Nat)*c) ((n:Int) - (i:Nat)) c) where
 mem:=by simp
 obj:=λi h st b hb=>by
  have e:b=it:=by simpa using hb
  subst e
  exact⟨_,st,λv z=>by
   have z':Data.fields _=Data.cell v:=z;cases z'⟩
 keep:=λi h h' st k=>k it (by simp) _ st
 item:=by
  intro X hP hw hK hc ht i pins s σ H E I hf st hg;subst hP hw hK;obtain⟨f0,f1,f2,f3,f4,f5⟩:=hf it (by simp);have hi:i<n:=hg;refine wpAny_pyNext_range_item st (by omega) λh' st' kk=>?_;have I1:Inv X pins σ H {s with heap:=h',toks:=s.toks+1}:=I.turned (λb o hb e=>(kk.2 b hb).trans e) f0 f1 f3 f4 f5
  have st2:a1j h' it (lo+((i+1:Nat):Int)*c) ((n:Int) - ((i+1:Nat):Int)) c:=by
   have e1:lo+((i:Nat):Int)*c+c=lo+((i+1:Nat):Int)*c:=by
    rw[show((i+1:Nat):Int)=(i:Int)+1 by omega,Int.add_mul,Int.one_mul,Int.add_assoc]
   have e2:(n:Int) - ((i:Nat):Int) - 1=(n:Int) - ((i+1:Nat):Int):=by omega
   rw[←e1,←e2];exact st'
  exact⟨_,rfl,a9I (s:={s with heap:=h',toks:=s.toks+1}) (n:="range_iterator") st2 rfl rfl (by decide) ⟨.int (lo+i*c),H,I1,⟨s.toks,rfl⟩,⟨rfl,rfl⟩,st2,λb hb=>(hf b hb).1⟩⟩
 done:=by
  intro X hP hw hK hc ht i pins s σ H E I hf st hg;subst hP hw hK;obtain⟨f0,f1,f2,f3,f4,f5⟩:=hf it (by simp);exact ad1 (I.hnd.heap I.hok) st (by have:n<=i:=hg;omega) λh' eb=>⟨rfl,I.turned (t':=s.toks) (λb o hb e=>eb b o hb e) f0 f1 f3 f4 f5⟩
 self:=λ_ _ _ _ _ st h=>wpAny_pyIter_rangeiter st h
noncomputable def lH(i j c:Int):Nat:=if c=1 then(j - i).toNat else(i - j).toNat
variable{c:Int}{b:jf}{p:Pos}
section
variable{X:Cx}
theorem alH{s:cj}{hi:Int}{t:Tok}{tk:Nat}(I:Inv X pins σ H s)(hc:c=1∨c=-1)(h1:-(2^62)<=lo)(h2:lo<2^62)(h3:-(2^62)<=hi)(h4:hi<2^62)
  (q:R (Itc lo c (lH lo hi c)) H):cu (fj X.prog X.w) X.A (pyIter (.ref s.heap.objs.size)) (PIE X pins σ tg R) E {s with heap:=s.heap.push {cls:=.type "range",data:=.fields #[.int lo t,.int hi u,.int c v]},toks:=tk}:=by
 refine wpAny_pyIter_range (IsRange.new ..) (hc.elim (λe=>by rw[e];exact small_one h1 h2 h3 h4) λe=>by rw[e];exact small_down h1 h2 h3 h4) ?_;have I1:Inv X pins σ H {s with heap:=s.heap.push {cls:=.type "range",data:=.fields #[.int lo t,.int hi u,.int c v]},toks:=tk}:=I.kept λb o e=>cg _ e
 refine⟨(s.heap.push {cls:=.type "range",data:=.fields #[.int lo t,.int hi u,.int c v]}).objs.size,[(s.heap.push {cls:=.type "range",data:=.fields #[.int lo t,.int hi u,.int c v]}).objs.size],_,_,H,rfl,
  I1.kept (t':=tk) λb o e=>cg _ e,ae5 _ lo c (lH lo hi c),?_,λb hb=>?_,q⟩
 .have e1:lo+((0:Nat):Int)*c=lo:=by simp
  have e2:((lH lo hi c:Nat):Int) - ((0:Nat):Int)=Builtin.Range.rangeSize lo hi c:=by
   rcases hc with rfl|rfl
   .rw[rangeSize_one];unfold lH;split<;>split<;>omega
   .rw[rangeSize_downNat];unfold lH;rw[if_neg (by decide)];omega
  show a1j _ _ (lo+((0:Nat):Int)*c) (((lH lo hi c:Nat):Int) - ((0:Nat):Int)) c;rw[e1,e2];exact gV _ rfl
 .have e:b=(s.heap.push {cls:=.type "range",data:=.fields #[.int lo t,.int hi u,.int c v]}).objs.size:=by simpa using hb
  subst e;exact I1.uH (dw _) (I1.hok.fresh (dw _))
noncomputable def aJJ(ta:TA):TI:=λσ H R=>ta σ H λvs H1=>∃i j c:Int,vs=[.int i,.int j,.int c]/\(-(2^61)<=i/\i<2^61/\-(2^61)<=j/\j<2^61)/\(c=1∨c=-1)/\R (Itc i c (lH i j c)) H1
theorem aa7(hg:Gl X "range")(hm:X.mg "range"=aq)(ha:PA X [a,b,d] ta)(hs:je [a,b,d] X.env=[(ao,eval a X.env),(ao,eval b X.env),(ao,eval d X.env)])(hs2:je [b,d] X.env=[(ao,eval b X.env),(ao,eval d X.env)]) :
  PI X tg (.Call (.Name "range" p) [a,b,d] [] pos) (aJJ ta):=by
 intro pins s σ H R I h _tk;refine Call_ (rJ I hg hm boot_range (PyProof.Rows.callWith_type1 (cL (ha pos pins s σ H _ I h) λus s1 ⟨vs,H1,I1,r1,q1⟩=>?_) (by rw[hs,hs2]) (by rw[hs2];rfl)));obtain⟨i,j,c,e,⟨q1,q2,q3,q4⟩,hc,q⟩:=q1;subst e;cases r1 with
 |cons r rr =>
 cases rr with
 |cons r' rr =>
 cases rr with
 |cons r'' rr =>
  cases rr;obtain⟨t,rfl⟩:=r;obtain⟨t',rfl⟩:=r';obtain⟨t'',rfl⟩:=r'';exact call_range_3 (by omega) (alH I1 hc (by omega) (by omega) (by omega) (by omega) q) (Or.inl (PyProof.noPylong_small (by omega)))
end
noncomputable def yI(lo c:Int)(n:Nat):List D:=(jy n).map λ(i:Nat)=>.int (lo+(i:Int)*c)
theorem aa8{K:Fg}:a1L K H1 (.yZ (yI lo c n)) (Itc lo c n):=λH2 G2 t g ok=>by
 refine⟨λi hi=>?_,λi v H' hi hy=>?_,?_⟩
 .have hi':i<n:=by simpa[Src.items,yI]using hi
  exact hi'
 .obtain⟨rfl,rfl⟩:=hy;have hi':i<n:=by simpa[Src.items,yI]using hi
  exact⟨.refl _,.int (lo+i*c),by simp[Src.items,yI,hi'],.int _⟩
 .show n<=_;simp[Src.items,yI]
theorem alI{K:Fg}:zQ K (.yZ (yI lo c n)) (Itc lo c n):=λH2 G2 g ok=>aa8 (H1:=H2) H2 G2 (.refl _) g ok
def ae6(xs:List D)(G:Gp)(R:Src->Gp->Prop):Prop:=match xs with
 |[.int i,.int j,.int c]=>(-(2^61)<=i/\i<2^61/\-(2^61)<=j/\j<2^61)/\(c=1∨c=-1)/\R (.yZ (yI i c (lH i j c))) G
 |_=>False
noncomputable def a1R(ta:nH):TI3:=λρ G R=>ta ρ G λxs G1=>ae6 xs G1 R
set_option tactic.hygienic true in
theorem ae7{K:Fg}(r:bQ K H ds vs)(h:ae6 ds G R):∃i j c:Int,vs=[.int i,.int j,.int c]/\(-(2^61)<=i/\i<2^61/\-(2^61)<=j/\j<2^61)/\(c=1∨c=-1)/\R (.yZ (yI i c (lH i j c))) G:=by
 unfold ae6 at h;split at h
 .rename_i i j c;cases r with
  |cons r1 r =>
  cases r with
  |cons r2 r =>
  cases r with
  |cons r3 r =>
  cases r;cases r1;cases r2;cases r3;exact⟨i,j,c,rfl,h⟩
 .exact h.elim
section
variable{X:Cx}
theorem aDE(hg:Gl X "range")(hm:X.mg "range"=aq)(ha:PA3 X [a,b,d] ta)(hs:je [a,b,d] X.env=[(ao,eval a X.env),(ao,eval b X.env),(ao,eval d X.env)])(hs2:je [b,d] X.env=[(ao,eval b X.env),(ao,eval d X.env)]):PI3 X tg (.Call (.Name "range" p) [a,b,d] [] pos) (a1R ta) :=
 PI.imp (aa7 hg hm ha hs hs2) λσ H Q h=>by
 obtain⟨ρ,G,R,s,g,q,k⟩:=h;refine⟨ρ,G,_,s,g,q,λvs H1 ds G1 t1 r g1 h1=>?_⟩;obtain⟨i,j,c,e,h2,h3,h4⟩:=ae7 r h1;exact⟨i,j,c,e,h2,h3,k _ _ H1 G1 t1 g1 aa8 h4⟩
theorem avY(hg:Gl X "range")(hm:X.mg "range"=aq)(ha:PA3 X [a,b,d] ta)(hs:je [a,b,d] X.env=[(ao,eval a X.env),(ao,eval b X.env),(ao,eval d X.env)])(hs2:je [b,d] X.env=[(ao,eval b X.env),(ao,eval d X.env)]):PIS X tg (.Call (.Name "range" p) [a,b,d] [] pos) (a1R ta) :=
 PI.imp (aa7 hg hm ha hs hs2) λσ H Q h=>by
 obtain⟨ρ,G,R,s,g,q,k⟩:=h;refine⟨ρ,G,_,s,g,q,λvs H1 ds G1 t1 r g1 h1=>?_⟩;obtain⟨i,j,c,e,h2,h3,h4⟩:=ae7 r h1;exact⟨i,j,c,e,h2,h3,k _ _ H1 G1 t1 g1 alI h4⟩
end
end
variable{its:Array bh}
section
open PySem.W
theorem avZ:typeLookup (.type "list") "keys"=pure aq:=by rw[typeLookup_type,builtinLookup_eq_fast];kernel_rfl
variable{o:Obj}{h':jj}{ps:List (List Key×bx×bh)}
section
variable{prog:jt}{w:iy}{A:iw}{s:cj}
theorem aw0{k:Nat} 
  (hx:s.heap.get? a=aj o)(hc:o.cls=.type "list")(hdat:o.data=.seq xs k)(hd:o.dict=aq)(hA:A.handled=aq)
  (h:∀h' tk,(∀b o,s.heap.get? b=aj o->h'.get? b=aj o)->Q aq {s with heap:=h',toks:=tk}) :
  cu (fj prog w) A (getAttr? (.ref a) "keys") Q E s:=by
 obtain⟨c,dct,dat,sl⟩:=o;simp only at hc hdat hd;subst hc hdat hd;obtain⟨hp,g,d,tk,os⟩:=s;have hT:∀tk',(⟨hp,g,d,tk',os⟩:cj).TypeIs (.ref a) "list":=λ_=>⟨_,hx,rfl⟩;have f1:=sub_AttributeError;have f3:=F.slot_list_getattribute.lookup;have f4:=F.slot_list_getattribute.bind (.ref a);have f5:=am_list_getattr_none;unfold getAttr? getAttrBy? getAttrBy
 repeat (any_goals (first|assumption|exact hT _|((with_reducible show cu _ _ (call (bh.builtin "list.__getattribute__") _ _) _ _ _);refine call_meets F.slot_list_getattribute (hT _) am_entry_list_getattribute (F.args_list_getattribute_2 _ _) (meets_getattribute_miss_list a xs k sl "keys" _ avZ (by decide) (by decide)) ⟨hx,hA,λh' tk' e hx'=>?_⟩)|wp_step))
 obtain⟨t',u',he⟩:=hx'.there;show cu _ _ (getattributeRaised _ _ _ _ _ _ _) _ _ _;unfold getattributeRaised
 repeat (any_goals (first|assumption|wp_step))
 exact h _ _ hx'.keeps
theorem ae8:entryFor table "dict.update.loop"=aj Builtin.«dict.update.loop» :=entryFor_of_fast (by kernel_rfl)
theorem zX:plainId "dict.update.loop"=ak:=by decide+kernel
noncomputable abbrev TK(prog:jt)(w:iy):=tupleKind (bH prog w)
def aw1(prog:jt)(w:iy)(h:jj)(v:bh)(x:List Key×bx×bh):Prop:=∃p o n,v=.ref p/\h.get? p=aj o/\o.cls=.type "tuple"/\o.data=.seq #[.ref x.2.1,x.2.2] n/\(TK prog w).is h x.1 x.2.1
noncomputable def aa9(xs ps:List (List Key×bx×bh)):List (List Key×bx×bh):=ps.foldl (λacc x=>a1k acc x.1 x.2.1 x.2.2) xs
variable{h:jj}
theorem abU(x:(TK prog w).is h ks a)(k:∀o,h.get? a=aj o->h'.get? a=aj o):(TK prog w).is h' ks a:=by
 obtain⟨o,its,n,h1,r⟩:=x;exact⟨o,its,n,k _ h1,r⟩
theorem ae9(xs:List (List Key×bx×bh))(k:List Key)(a:bx)(v:bh):(a1k xs k a v).length<=xs.length+1:=by
 unfold a1k;split<;>simp
theorem aeA{k:List Key}{y:List Key×bx×bh}(h:y∈a1k xs k a v):y.2.1=a∨∃x∈xs,y.2.1=x.2.1:=by
 unfold a1k at h;split at h
 .obtain⟨x,hx,e⟩:=jz.mp h;refine .inr ⟨x,hx,?_⟩;subst e;unfold putAt;split<;>rfl
 .rcases xu.mp h with h|h
  .exact .inr ⟨y,h,rfl⟩
  .rw[su]at h;subst h;exact .inl rfl
theorem abV(hm:h.DictOfH (TK prog w) d xs)(kd:∀o,h.get? d=aj o->h'.get? d=aj o)(kx:∀x∈xs,∀o,h.get? x.2.1=aj o->h'.get? x.2.1=aj o):h'.DictOfH (TK prog w) d xs:=by
 obtain⟨o,es,ep,h1,h2,h3,h4,h5,h6⟩:=hm;exact⟨o,es,ep,kd _ h1,h2,h3,h4,λx hx=>abU (h5 x hx) (kx x hx),h6⟩
def ah4(prog:jt)(w:iy)(I d:bx)(h:jj)(v:bh)(x:List Key×bx×bh):Prop:=∃p o n,v=.ref p/\h.get? p=aj o/\o.cls=.type "tuple"/\o.data=.seq #[.ref x.2.1,x.2.2] n/\(TK prog w).is h x.1 x.2.1/\p≠I/\p≠d/\x.2.1≠I/\x.2.1≠d
theorem ah4.keep(q:ah4 prog w I d h v x)(k:∀b o,b≠d->b≠I->h.get? b=aj o->h'.get? b=aj o):ah4 prog w I d h' v x:=by
 obtain⟨p,o,n,e,h1,h2,h3,h4,h5,h6,h7,h8⟩:=q;exact⟨p,o,n,e,k _ _ h6 h5 h1,h2,h3,abU h4 λo e=>k _ _ h8 h7 e,h5,h6,h7,h8⟩
theorem aw2(q:ah4 prog w I d s.heap v x)(h:Q [.ref x.2.1,x.2.2] s):cu (fj prog w) A (Builtin.Dict.pairItems v) Q E s:=by
 obtain⟨p,o,n,rfl,h1,h2,h3,h4,_⟩:=q;unfold Builtin.Dict.pairItems;refine au (wpAny_typeOf (T:="tuple") ⟨o,h1,h2⟩ ?_);rw[if_pos (by decide)];refine au (wz h1 h3 ?_);exact dh h
theorem aw3(hh:A.handled=aq)(hu:A.units+1<kh)(hdI:d≠I)(hlI:l≠I)(hld:l≠d)(hlen:its.size=ps.length) :
  ∀(k i:Nat)(s:cj)(xs:List (List Key×bx×bh))(j:Int)(t:Tok),ps.length - i=k->i<=ps.length->s.heap.IsListIter I l i->s.heap.IsList l its->s.heap.DictOfH (TK prog w) d xs->xs.length+(ps.length - i)<=dg ->
   (∀x∈xs,x.2.1≠I)->(∀(i:Nat)(v:bh)(x:List Key×bx×bh),its[i]?=aj v->ps[i]?=aj x->ah4 prog w I d s.heap v x) ->
   (∀h' tk,h'.DictOfH (TK prog w) d (aa9 xs (ps.drop i))->(∀b o,b≠d->b≠I->s.heap.get? b=aj o->h'.get? b=aj o)->R (.ok (.ret .none)) {s with heap:=h',toks:=tk}) ->
   yu (fj prog w) A (.builtin "dict.update.loop" ⟨[.ref d,.ref I,.int j t,.none],[]⟩) R s:=by
 intro k
 induction k with
 |zero =>
  intro i s xs j t hk hi hst hl hd hz hx hp hR;have hin:i=ps.length:=by omega
  refine xr ae8 ?_;rw[iw.under_plainId zX _];show cu _ A.in1 (zc (.ref I) >>= _) _ _ s;have W:=Walks.list (prog:=prog) (w:=w) (A:=A.in1) hh I l hlI its;refine au (W.done s _ _ (by rw[hlen,←hin];exact⟨hst,hl⟩) λh' tk kk=>?_);have hd':h'.DictOfH (TK prog w) d xs:=abV hd (λo e=>kk _ _ (by simpa using hdI) e) λx m o e=>kk _ _ (by simpa using hx x m) e;show cu _ A.in1 (Builtin.Dict.addKeywords d [] >>= _) _ _ _;refine au (dh (dh ?_));refine hR h' tk (by rw[hin,List.drop_length];exact hd') λb o h1 h2 e=>kk b o (by simpa using h2) e
 |succ k ih =>
  intro i s xs j t hk hi hst hl hd hz hx hp hR;have hlt:i<ps.length:=by omega
  refine xr ae8 ?_;rw[iw.under_plainId zX _];show cu _ A.in1 (zc (.ref I) >>= _) _ _ s;have W:=Walks.list (prog:=prog) (w:=w) (A:=A.in1) hh I l hlI its;refine au (W.item i s _ _ (by omega) ⟨hst,hl⟩ λv h' tk hP hst' kk=>?_);obtain⟨x,hxi⟩:∃x,ps[i]?=aj x:=⟨_,gw hlt⟩;have k1:∀b o,b≠d->b≠I->s.heap.get? b=aj o->h'.get? b=aj o:=λb o _ h2 e=>kk b o (by simpa using h2) e;have hp1:∀(i:Nat)(v:bh)(x:List Key×bx×bh),its[i]?=aj v->ps[i]?=aj x->ah4 prog w I d h' v x:=λi v x e1 e2=>(hp i v x e1 e2).keep k1;have hd':h'.DictOfH (TK prog w) d xs:=abV hd (λo e=>kk _ _ (by simpa using hdI) e) λx m o e=>kk _ _ (by simpa using hx x m) e;have pv:=hp1 i v x hP hxi;obtain⟨p,o,n,_,_,_,_,hkey,_,_,h7,h8⟩:=id pv;refine au (qb (au (yw (aw2 (s:={s with heap:=h',toks:=tk}) pv ?_))));show cu _ A.in1 (a0g [bh.ref x.2.1,x.2.2] (dictSet d (.ref x.2.1) x.2.2)) _ _ _;refine qb (wpAny_dictSet_heap (s:={s with heap:=h',toks:=tk}) (vq hu) hkey hd' (λh2 hd2 hs2=>?_) (by omega));have k2:∀b o,b≠d->b≠I->s.heap.get? b=aj o->h2.get? b=aj o:=λb o h1 hI e=>(hs2.2 b h1).trans (k1 b o h1 hI e);refine dh ⟨zf zX _,ih (i+1) _ (a1k xs x.1 x.2.1 x.2.2) _ _ (by omega) hlt (hst'.1.at λo e=>(hs2.2 I (Ne.symm hdI)).trans e) (hst'.2.at λo e=>(hs2.2 l hld).trans e) hd2 (by have:=ae9 xs x.1 x.2.1 x.2.2;omega) (λy hy=>?_) (λi v x e1 e2=>(hp i v x e1 e2).keep k2) λh3 tk3 hd3 k3=>?_⟩
  .rcases aeA hy with e|⟨z,hz',e⟩
   .rw[e];exact h7
   .rw[e];exact hx z hz'
  .refine hR h3 tk3 ?_ λb o h1 hI e=>k3 b o h1 hI (k2 b o h1 hI e)
   have:ps.drop i=x::ps.drop (i+1):=by
    rw[List.drop_eq_getElem_cons hlt];rw[gw hlt]at hxi;cases hxi;rfl
   rw[this];exact hd3
theorem aw1.ok(q:aw1 prog w h v x)(hI:h.objs.size<=I)(hd:h.objs.size<=d)(k:∀b o,h.get? b=aj o->h'.get? b=aj o):ah4 prog w I d h' v x:=by
 obtain⟨p,o,n,e,h1,h2,h3,h4⟩:=q;have l1:=gk h1
 have l2:x.2.1<h.objs.size:=by
  obtain⟨o2,its,n2,z,_⟩:=id h4;exact gk z
 exact⟨p,o,n,e,k _ _ h1,h2,h3,abU h4 λo e=>k _ _ e,jd (iz l1 hI),jd (iz l1 hd),jd (iz l2 hI),jd (iz l2 hd)⟩
theorem aw4(hh:A.handled=aq)(hu:A.units+4<kh)(hl:s.heap.get? l=aj o)(hc:o.cls=.type "list")(hdat:o.data=.seq its n)(hdn:o.dict=aq)(hlen:its.size=ps.length)(hz:ps.length<=dg)
  (hp:∀(i:Nat)(v:bh)(x:List Key×bx×bh),its[i]?=aj v->ps[i]?=aj x->aw1 prog w s.heap v x)
  (h:∀h' tk,h'.DictOfH (TK prog w) s.heap.objs.size (aa9 [] ps)->(∀b o,s.heap.get? b=aj o->h'.get? b=aj o)->Q (.ref s.heap.objs.size) {s with heap:=h',toks:=tk}) :
  cu (fj prog w) A (call (.type "dict") [.ref l]) Q E s:=by
 refine callType_codes (Q₁:=λobj s₁=>obj=.ref s.heap.objs.size/\s₁={s with heap:=s.heap.push {cls:=.type "dict",data:=.dict #[]}}) F.kt_called_dict (F.kt_typeCall_dict_1 _) F.entry_dict_init (kt_code_dict_new _ ⟨rfl,rfl⟩) ?_;rintro obj s₁ ⟨rfl,rfl⟩;have kp:∀b o,s.heap.get? b=aj o->(s.heap.push {cls:=.type "dict",data:=.dict #[]}).get? b=aj o:=λb o e=>cg _ e;have hnew:(s.heap.push {cls:=.type "dict",data:=.dict #[]}).DictOfH (TK prog w) s.heap.objs.size []:=Heap.DictOfH.new s.heap;have hdl:l≠s.heap.objs.size:=jd (gk hl);refine⟨hnew.typeIs,F.args_dict_init_2 _ _,?_⟩;unfold Builtin.«dict.__init__»;refine au ?_;unfold Builtin.Dict.selfAndRest;refine au (wpAny_notOrdered_dict hnew.typeIs ?_);show cu _ _ (pure (s.heap.objs.size,[bh.ref l])) _ _ _;refine dh ?_;show cu _ _ (Builtin.Dict.updateFrom "dict.__init__" s.heap.objs.size (.ref l) [] .none) _ _ _;unfold Builtin.Dict.updateFrom;refine au (wpAny_typeOf (T:="list") ⟨o,kp _ _ hl,hc⟩ ?_);rw[if_pos (by decide)];refine au (aw0 (kp _ _ hl) hc hdat hdn hh λh' tk k1=>?_);rw[if_pos (by rfl)];refine au (a0x ?_);have hl1:h'.IsList l its:=⟨o,k1 _ _ (kp _ _ hl),hc,n,hdat⟩;refine au (wpAny_pyIter_list (s:={s with heap:=h',toks:=tk}) hl1 ?_);have k2:∀b o,s.heap.get? b=aj o->(h'.push {cls:=.type "list_iterator",data:=.fields #[.ref l,yg 0]}).get? b=aj o:=λb o e=>cg _ (k1 _ _ (kp _ _ e));have sz1:s.heap.objs.size<h'.objs.size:=gk (k1 s.heap.objs.size _ (gV _ rfl));refine dh ⟨zf zX _,aw3 (A:=A.in1) (its:=its) (ps:=ps) hh (by show A.units+1+1<kh;omega) (jd sz1) (jd (gk hl1.choose_spec.1)) hdl hlen ps.length 0 _ [] _ _ rfl (vm _) ⟨_,gV _ rfl,rfl,rfl⟩ (hl1.at λo e=>cg _ e) (abV hnew (λo e=>cg _ (k1 _ _ e)) λx hx=>by simp at hx) (by simp;omega) (λx hx=>by simp at hx) (λi v x e1 e2=>(hp i v x e1 e2).ok (ur sz1) (dw _) k2) λh3 tk3 hd3 k3=>?_⟩;exact⟨rfl,h h3 tk3 hd3 λb o e=>k3 b o (jd (gk e)) (jd (Nat.lt_trans (gk e) sz1)) (k2 b o e)⟩
end
end
section
open PySem.W
noncomputable def pairD:D->Option (List Key×D)
 |.tup [.tup ds,z]=>(match ap8 ds with
  |some ks=>aj (ks,z)
  |none=>aq)
 |_=>aq
noncomputable def aJK(kvs:List (DK×D))(ps:List (List Key×D)):List (DK×D):=ps.foldl (λacc p=>zW acc (.inr p.1) p.2) kvs
inductive Prs(K:Fg)(H:Hp):List (List Key×D)->List (List Key×bx×bh)->Prop where
 |nil:Prs K H [] []
 |cons {ks:List Key} {b:bx} {vz:V} {u:bh} {d:D} {kvs:List (List Key×D)} {ps:List (List Key×bx×bh)}:H b=aj (.tup (ks.map kV))->RD K H d vz->RelV vz u->Prs K H kvs ps->Prs K H ((ks,d)::kvs) ((ks,b,u)::ps)
theorem Prs.len{K:Fg}{kvs:List (List Key×D)}{ps:List (List Key×bx×bh)}(h:Prs K H kvs ps):kvs.length=ps.length:=by
 induction h with
 |nil=>rfl
 |cons _ _ _ _ ih=>simp[ih]
theorem Prs.fold{K:Fg}(h:Prs K H kvs ps):∀{k0:List (DK×D)}{y0:List (List Key×V)}{p0:List (List Key×bx×bh)},KT H y0 p0->xG K H .inr k0 y0->∃ys,KT H ys (aa9 p0 ps)/\xG K H .inr (aJK k0 kvs) ys:=by
 induction h with
 |nil=>intro k0 y0 p0 a b;exact⟨y0,a,b⟩
 |@cons ks b vz u d kvs ps e rd rv _ ih =>
  intro k0 y0 p0 a c;exact ih (KT.put a ks e rv) (a4L a4N rd c)
section
variable{X:Cx}
noncomputable def aaA(p:List Int×D):D:=.tup [.tup (p.1.map D.int),p.2]
def apH(d:D):Prop:=(∃i,d=.int i)∨∃b,d=.bl b
theorem apI{pins:List (bx×Obj)}{s:cj}(I:Inv X pins σ H s):∀{kvs:List (List Int×D)}{zs:List V}{its:List bh},bQ X.K H (kvs.map aaA) zs->Vals zs its->(∀p∈kvs,apH p.2) ->
  ∃ps:List (List Key×bx×bh),Paired (KmR X.K H) kvs ps/\its.length=ps.length/\∀(i:Nat)(v:bh)(x:List Key×bx×bh),its[i]?=aj v->ps[i]?=aj x->aw1 X.prog X.w s.heap v x
 |[],_,_,.nil,.nil,_=>⟨[],.nil,rfl,λi v x e=>by simp at e⟩
 |p::kvs,z::zs,u::its,.cons r rs,.cons v vs,hp=>by
  obtain⟨ps,h1,hl,hq⟩:=apI I rs vs λq m=>hp q (jw _ m);have pd:=hp p (qu ..);clear rs vs;cases r with
  |@tup a xs _ sq rr _ =>
  obtain rfl:u=bh.ref a:=v;cases rr with
  |cons r1 rr =>
  cases rr with
  |@cons _ vz _ _ r2 rr =>
  cases rr;obtain⟨b,rfl,sb⟩:=a4O r1;obtain⟨i2,vi,⟨o,g1,g2,n,g3⟩,_⟩:=I.tuple sq;cases vi with
  |cons va vi =>
  cases vi with
  |@cons _ uz _ _ vb vi =>
  cases vi;cases va;refine⟨(p.1.map Sum.inl,b,uz)::ps,.cons ⟨rfl,sb,apD pd r2 vb⟩ h1,by simp[hl],λi v x e1 e2=>?_⟩;cases i with
  |zero =>
   simp at e1 e2;subst e1 e2;exact⟨a,o,n,rfl,g1,g2,by simpa using g3,a6B I sb⟩
  |succ i=>exact hq i v x (by simpa using e1) (by simpa using e2)
noncomputable def foldM(m:List (List Int×D))(kvs:List (List Int×D)):List (List Int×D):=kvs.foldl (λm p=>a1P m p.1 p.2) m
theorem aw5{K:Fg}(r:Paired (KmR K H) kvs ps):∀{m:List (List Int×D)}{xs:List (List Key×bx×bh)},Paired (KmR K H) m xs->Paired (KmR K H) (foldM m kvs) (aa9 xs ps):=by
 induction r with
 |nil=>exact λh=>h
 |@cons p x kvs ps h r ih =>
  intro m xs q;show Paired _ (foldM (a1P m p.1 p.2) kvs) (aa9 (a1k xs x.1 x.2.1 x.2.2) ps);refine ih ?_;have sq:=h.2.1;rw[h.1]at sq ⊢;exact apE q sq h.2.2
noncomputable def wL:List D->Gp->fL->Prop:=λxs G R=>match xs with
 |[.ref a]=>∃kvs:List (List Int×D),aM G a=aj (kvs.map aaA)/\(∀p∈kvs,apH p.2)/\∀r,G r=aq->R (.ref r) (aL G r (.zJ (foldM [] kvs)))
 |_=>False
set_option tactic.hygienic true in
theorem aw6(hc:X.calm=ak)(hu:X.A.units+64<kh):cD X (.type "dict") wL:=by
 intro pins s σ H xs vs us G R Q I rx rv g q k;unfold wL at q;split at q
 .rename_i a;obtain⟨kvs,e1,pd,q⟩:=q;cases rx with
  |cons r1 rr =>
  cases rr;cases r1;cases rv with
  |cons rv rr =>
  cases rr;cases rv;obtain⟨zs,hq,r⟩:=bM g e1;obtain⟨its,vi,⟨o,n,h1,h2,h3,h4⟩,hz⟩:=I.list hq;obtain⟨ps,hp,hl,hat⟩:=apI I r vi pd;have hpz:ps.length<=dg:=by rw[←hl,←vi.length];exact hz
  refine aw4 (I.ok.hd hc) (by omega) h1 h2 h4 h3 (by simpa using hl) hpz (λi v x e1 e2=>hat i v x (by simpa using e1) e2) λh' tk hd kk=>?_;have fr:H s.heap.objs.size=aq:=I.hok.fresh (dw _);have rf:=aw5 hp (m:=[]) (xs:=[]) .nil;generalize aa9 [] ps=ys at hd rf;have sn:Same H (upd H s.heap.objs.size (.ext (al2 X.prog X.w s.heap.objs.size ys))):=bB fr;obtain⟨q0,es,ep,g1,g2,g3,g4,_,g5⟩:=hd
  have J:Inv X pins σ (upd H s.heap.objs.size (.ext (al2 X.prog X.w s.heap.objs.size ys))) {s with heap:=h',toks:=tk}:=I.laid (t':=tk) (o:=.ext (al2 X.prog X.w s.heap.objs.size ys)) kk (dw _) ⟨⟨(by have:=I.big;simp;exact yj this),q0,es,ep,g1,g2,g3,g4,g5⟩,⟨q0,g1⟩,λh1 h2 z kp=>by
   obtain⟨z0,o1,es1,ep1,z1,z2⟩:=z;exact⟨z0,o1,es1,ep1,kp _ z1,z2⟩⟩
  exact⟨.ref s.heap.objs.size,_,J,rfl,k _ _ (.ref _) _ (.same sn) (.ref _) (g.put (u:=.zJ (foldM [] kvs)) fr ⟨_,aF,.inr ⟨X.prog,X.w,ys,rfl,Paired.agD rf λ_ _ z=>⟨z.1,(Ts.same sn).sqT z.2.1,z.2.2⟩⟩⟩) (q _ (gP g fr (oM J)))⟩
 .exact q.elim
theorem a1S{K:Fg}:∀(ks:List Key),bQ K H (ks.map kD) (ks.map kV)
 |[]=>.nil
 |.inl i::r=>.cons (.int i) (a1S r)
 |.inr x::r=>.cons (.str x) (a1S r)
theorem aw7{K:Fg}{kvs:List (List Int×D)}{ws:List (List Key×bx×bh)}(r:Paired (KmR K H) kvs ws):bQ K H (kvs.map λp=>.tup (p.1.map D.int)) (ws.map λx=>.ref x.2.1):=by
 induction r with
 |nil=>exact .nil
 |@cons p x kvs ws h r ih =>
  refine .cons ?_ ih;have sq:=h.2.1;rw[h.1]at sq;refine .tup sq ?_ trivial;have:=a1S (K:=K) (H:=H) (p.1.map Sum.inl);rw[mj]at this;exact this
noncomputable def zY:List D->Gp->fL->Prop:=λxs G R=>match xs with
 |[.ref a]=>∃kvs,G a=aj (.zJ kvs)/\kvs.length<=dg/\∀l,G l=aq->R (.ref l) (aL G l (.lst (kvs.map λp=>.tup (p.1.map D.int))))
 |_=>False
set_option tactic.hygienic true in
theorem aw8(hc:X.calm=ak):cD X (.type "list") zY:=by
 intro pins s σ H xs vs us G R Q I rx rv g q k;unfold zY at q;split at q
 .rename_i a;obtain⟨kvs,e1,hlen,q⟩:=q;cases rx with
  |cons r1 rr =>
  cases rr;cases r1;cases rv with
  |cons rv rr =>
  cases rr;cases rv;obtain⟨_,ws,_,_,_,_,rel,hd,o,es,ep,ho,hcl,hdat,he,his,hn⟩:=abQ I g e1;have lw:es.size=ws.length:=size_of_entries he;have lw2:ws.length=kvs.length:=(Paired.length rel).symm;refine kdl_call (aDD hd) (I.ok.hd hc) ⟨o,ho,hcl,hdat⟩ (by omega) λh' tk acc c kk hS hacc=>?_;have fr:H s.heap.objs.size=aq:=I.hok.fresh (dw _);have sn:Same H (upd H s.heap.objs.size (.lst (ws.map λx=>.ref x.2.1))):=bB fr
  have aJL:acc.toList=ws.map λx=>bh.ref x.2.1:=by
   apply List.ext_getElem?;intro i;by_cases hi:i<ws.length
   .have hi2:i<acc.size:=by rw[hacc.1,lw];exact hi
    obtain⟨en,e1,e2⟩:=hacc.2 i acc[i] (a1t hi2);have e3:es.toList[i]?=aj en:=by rw[a2h];exact e1
    rw[he,nu,gw hi]at e3;have e4:entryOfKey (zu (bH X.prog X.w)) ws[i]=en:=by simpa using e3
    rw[a2h,a1t hi2,e2,←e4,nu,gw hi];rfl
   .rw[a1e (by rw[a0a,hacc.1,lw];omega),a1e (by simp;omega)]
  have vals:∀l:List (List Key×bx×bh),Vals (l.map λx=>V.ref x.2.1) (l.map λx=>bh.ref x.2.1):=λl=>by
   induction l with
   |nil=>exact .nil
   |cons x r ih=>exact .cons rfl ih
  have J:Inv X pins σ (upd H s.heap.objs.size (.lst (ws.map λx=>.ref x.2.1))) {s with heap:=h',toks:=tk}:=I.laid (t':=tk) (o:=.lst _) kk (dw _) ⟨by simp;omega,_,c,vals ws,by rw[←aJL];simpa using hS⟩;exact⟨.ref s.heap.objs.size,_,J,rfl,k _ _ (.ref _) _ (.same sn) (.ref _) (g.put (u:=.lst _) fr ⟨_,aF,(aw7 rel).mono (.same sn)⟩) (q _ (gP g fr (oM J)))⟩
 .exact q.elim
end
end
section
noncomputable abbrev abW(X:Cx)(i:Nat)(nm:Str):Cx:={X with N:=X.N.set i nm}
section
variable{X:Cx}{pins:List (bx×Obj)}{i:Nat}{nm:Str}
theorem aDG(ok:X.Ok):(abW X i nm).Ok:=⟨ok.mod,ok.kind,ok.glob,ok.blt,ok.above,ok.inj,ok.has,ok.cab,ok.hd,ok.frames,ok.stk,ok.exf,ok.bs,ok.bsz,ok.a3K,ok.a4Y,ok.nF,ok.frf⟩
theorem aDH(ok:(abW X i nm).Ok):X.Ok:=⟨ok.mod,ok.kind,ok.glob,ok.blt,ok.above,ok.inj,ok.has,ok.cab,ok.hd,ok.frames,ok.stk,ok.exf,ok.bs,ok.bsz,ok.a3K,ok.a4Y,ok.nF,ok.frf⟩
theorem apJ(I:Inv X pins σ H s):Inv (abW X i nm) pins (rP σ i) H s :=
 ⟨aDG I.ok,I.os,I.bare,I.base,let⟨m,hn,hl⟩:=I.loc;⟨m,hn,λj x v e1 e2 e3=>by
  obtain⟨n,e4⟩:=zM σ i j v e2;have e1':(X.N.set i nm)[j]?=aj x:=e1;rw[rm (Ne.symm n)]at e1';exact hl j x v e1' e4 e3⟩,I.cell,I.free,I.gM,I.pin,I.hok,by rw[zL,I.len];simp,I.hnd,I.tup⟩
theorem pZ(I:Inv (abW X i nm) pins σ H s):Inv X pins (rP σ i) H s :=
 ⟨aDH I.ok,I.os,I.bare,I.base,let⟨m,hn,hl⟩:=I.loc;⟨m,hn,λj x v e1 e2 e3=>by
  obtain⟨n,e4⟩:=zM σ i j v e2;exact hl j x v (by show(X.N.set i nm)[j]?=aj x;rw[rm (Ne.symm n)];exact e1) e4 e3⟩,I.cell,I.free,I.gM,I.pin,I.hok,by rw[zL,I.len];simp,I.hnd,I.tup⟩
end
noncomputable def aJM(F:cQ)(i:Nat):cQ:={nx:=λρ G=>F.nx (jQ ρ i) G,rt:=F.rt,bk:=λρ G=>F.bk (jQ ρ i) G,ct:=λρ G=>F.ct (jQ ρ i) G}
noncomputable def a6D(i:Nat)(t:bI):bI:=λF ρ G=>t (aJM F i) (jQ ρ i) G
variable{i:Nat}
set_option tactic.hygienic true in
theorem aDI{X:Cx}{nm:Str}{st:kj}{t:bI}(h:PS3 (abW X i nm) st t):PS3 X st (a6D i t):=by
 intro pins s σ H F I q _tk;obtain⟨ρ,G,E,sr,g,q,u⟩:=q;refine cL (h pins s (rP σ i) H {nx:=λσ H=>F.nx (rP σ i) H,rt:=F.rt,bk:=λσ H=>F.bk (rP σ i) H,ct:=λσ H=>F.ct (rP σ i) H} (apJ I) ⟨jQ ρ i,G,aJM E i,sr.clr i,g,q,⟨λρ G σ H' a b c=>u.nx _ _ _ _ (a.clr i) b c,u.rt,λρ G σ H' a b c=>u.bk _ _ _ _ (a.clr i) b c,λρ G σ H' a b c=>u.ct _ _ _ _ (a.clr i) b c⟩⟩) λf s' z=>?_;cases f with
 |next=>obtain⟨σ',H',I',z⟩:=z;exact⟨_,H',pZ I',z⟩
 |brk=>obtain⟨σ',H',I',z⟩:=z;exact⟨_,H',pZ I',z⟩
 |cont=>obtain⟨σ',H',I',z⟩:=z;exact⟨_,H',pZ I',z⟩
 |ret v=>obtain⟨v,σ',H',I',r,z⟩:=z;exact⟨v,_,H',pZ I',r,z⟩
theorem apK{nm:Str}(c:Cat X EX):Cat (abW X i nm) (λρ=>EX (jQ ρ i)):=⟨λpins σ H s ρ e s' I sr q=>c.aiN pins _ H s _ e s' (pZ I) (sr.clr i) q⟩
theorem apL{nm:Str}(c:Thr X EX):Thr (abW X i nm) (λρ=>EX (jQ ρ i)):=⟨λpins σ H s ρ C e us h' I sr m q=>c.made pins _ H s _ C e us h' (pZ I) (sr.clr i) m q⟩
theorem a6E{nm:Str}:∀{N:List Str}{i:Nat},N.Nodup->nm∉N->(N.set i nm).Nodup
 |[],_,h,_=>h
 |x::r,0,h,n=>by
  rw[vo]at h;show(nm::r).Nodup;rw[vo];exact⟨λz=>n (.tail _ z),h.2⟩
 |x::r,i+1,h,n=>by
  rw[vo]at h;show(x::r.set i nm).Nodup;rw[vo];refine⟨λz=>?_,a6E h.2 λz=>n (.tail _ z)⟩;rcases List.mem_or_eq_of_mem_set z with z|z
  .exact h.1 z
  .exact n (z ▸ .head _)
end
section
open PySem.W
section
end
section
end
end
section
open Builtin.Str
section
end
section
noncomputable def aLX:RM3:=λx xs G R=>match x,xs with
 |.str a,[.str b]=>(b.length==0)=ao/\a.length+2<=dg/\(Txt.split a b).length<=dg/\∀q,G q=aq->R (.ref q) (aL G q (.lst ((Txt.split a b).map D.str)))
 |_,_=>False
noncomputable def azS:List D->Gp->fL->Prop:=λxs G R=>match xs with
 |[.int i]=>i.natAbs.log2<1920/\R (.str (toString i)) G
 |[.str z]=>R (.str z) G
 |_=>False
theorem abX:oJ X (.type "str") (λxs H Q=>(∃i,xs=[.int i]/\i.natAbs.log2<1920/\Q (.str (toString i)) H)∨∃z,xs=[.str z]/\Q (.str z) H):=by
 intro pins s σ H xs us Q I r h;rcases h with⟨i,rfl,hz,q⟩|⟨z,rfl,q⟩
 .obtain⟨u,rfl,t,rfl⟩:=vals1 r;exact PySem.P.str_of_int hz ⟨.str _,H,I.tok _,⟨_,rfl⟩,q⟩
 .obtain⟨u,rfl,t,rfl⟩:=vals1 r;exact PySem.P.str_of_str ⟨.str _,H,I,⟨_,rfl⟩,q⟩
theorem aJN:cD X (.type "str") azS:=cD.of abX λH xs vs G R Q rx g q k=>by
 cases rx with
 |nil=>exact False.elim q
 |cons r rr =>
  cases rr with
  |cons _ _=>cases r<;>exact False.elim q
  |nil =>
   cases r with
   |int i=>exact .inl ⟨i,rfl,q.1,λ_=>k _ H _ G (.refl H) (.str _) g q.2⟩
   |str z=>exact .inr ⟨z,rfl,λ_=>k _ H _ G (.refl H) (.str _) g q⟩
   |_=>exact False.elim q
noncomputable def rY:List D->Gp->fL->Prop:=λxs G R=>match xs with
 |[.ref q]=>(match aM G q with
  |some ds=>R (.tup ds) G
  |none=>False)
 |_=>False
set_option tactic.hygienic true in
theorem aw9:cD X (.type "tuple") rY:=cD.of a8O λH xs vs G R Q rx g q k=>by
 cases rx with
 |nil=>exact False.elim q
 |cons r rr =>
  cases rr with
  |cons _ _=>cases r<;>exact False.elim q
  |nil =>
   cases r with
   |ref a =>
    have q':(match aM G a with
     |some ds=>R (.tup ds) G
     |none=>False):=q
    split at q'
    .rename_i ds e1;obtain⟨xs,h1,r1⟩:=bM g e1;refine⟨a,xs,rfl,.inl ⟨h1,λl hl kf=>?_⟩⟩;have sn:Same H (upd H l (.tup xs)):=bB hl;exact k _ _ _ _ (.same sn) (.tup (oH.of aF) (r1.mono (.same sn)) (adD aF)) (g.same sn) q'
    .exact q'.elim
   |_=>exact False.elim q
end
end
section
section
end
end
section
open PySem.W
variable{x:Key×bh}
section
variable{prog:jt}{w:iy}
noncomputable def aJO(xs ps:List (Key×bh)):List (Key×bh):=ps.foldl (λacc x=>stored acc x.1 x.2) xs
def awA(prog:jt)(w:iy)(I d:bx)(h:jj)(v:bh)(x:Key×bh):Prop:=∃p o n key,v=.ref p/\h.get? p=aj o/\o.cls=.type "tuple"/\o.data=.seq #[key,x.2] n/\(bH prog w).is x.1 key=ak/\p≠I/\p≠d
theorem awA.keep{h h':jj}(q:awA prog w I d h v x)(k:∀b o,b≠d->b≠I->h.get? b=aj o->h'.get? b=aj o):awA prog w I d h' v x:=by
 obtain⟨p,o,n,key,e,h1,h2,h3,h4,h5,h6⟩:=q;exact⟨p,o,n,key,e,k _ _ h6 h5 h1,h2,h3,h4,h5,h6⟩
def aJP(prog:jt)(w:iy)(h:jj)(v:bh)(x:Key×bh):Prop:=∃p o n key,v=.ref p/\h.get? p=aj o/\o.cls=.type "tuple"/\o.data=.seq #[key,x.2] n/\(bH prog w).is x.1 key=ak
theorem aJP.ok{h h':jj}(q:aJP prog w h v x)(hI:h.objs.size<=I)(hd:h.objs.size<=d)(k:∀b o,h.get? b=aj o->h'.get? b=aj o):awA prog w I d h' v x:=by
 obtain⟨p,o,n,key,e,h1,h2,h3,h4⟩:=q;have l1:=gk h1;exact⟨p,o,n,key,e,k _ _ h1,h2,h3,h4,jd (iz l1 hI),jd (iz l1 hd)⟩
end
noncomputable def aDJ(kvs:List (DK×D))(ps:List (Key×D)):List (DK×D):=ps.foldl (λacc p=>zW acc (.inl p.1) p.2) kvs
inductive apM(K:Fg)(H:Hp):List (Key×D)->List (Key×bh)->Prop where
 |nil:apM K H [] []
 |cons {k:Key} {vz:V} {u:bh} {d:D} {kvs:List (Key×D)} {ps:List (Key×bh)}:RD K H d vz->RelV vz u->apM K H kvs ps->apM K H ((k,d)::kvs) ((k,u)::ps)
theorem apM.fold{K:Fg}(h:apM K H kvs ps):∀{k0:List (DK×D)}{y0:List (Key×V)}{p0:List (Key×bh)},KV y0 p0->xG K H .inl k0 y0->∃ys,KV ys (aJO p0 ps)/\xG K H .inl (aDJ k0 kvs) ys:=by
 induction h with
 |nil=>intro k0 y0 p0 a b;exact⟨y0,a,b⟩
 |@cons k vz u d kvs ps rd rv _ ih =>
  intro k0 y0 p0 a c;exact ih (KV.put a k rv) (a4L a4M rd c)
section
end
end
section
open PySem.W
section
end
section
end
end
section
open PySem.W
section
end
section
end
end
section
open PySem.W
section
section
variable[DecidableEq κ]
end
end
section
end
end
section
open PySem.W
section
variable{X:Cx}{A:iw}
theorem alJ(hu:A.units<kh)(I:Inv X pins σ H s)(g:ad5 H a y v H')(ry:RelV y u)(rv:RelV v r)(h:∀s',Inv X pins σ H' s'->Q () s'):cu (fj X.prog X.w) A (dictSet a u r) Q E s:=by
 rcases g with⟨kvs,k,e,ey,l,eH⟩|⟨kvs,k,b,e,ey,eb,l,eH⟩
 .subst ey eH;obtain⟨z,hd,vs,rel,dd⟩:=az9 I.hok e;have lp:=oK kvs k v;refine wpAny_dictSet_pairs (hsz:=by rw[←rel.length];exact z) (a5F ry) dd λh' d2 hs=>h _ (zA I (by rw[e];exact True.intro) hs (let⟨q,_,_,hq,_⟩:=d2;⟨q,hq⟩) (anO (by omega) hd (rel.put k rv) d2))
 .subst ey eH;cases(show u=bh.ref b from ry);obtain⟨z,hd,xs,rel,dd⟩:=anN I.hok e;have lp:=oK kvs k v;refine wpAny_dictSet_heap (hsz:=by rw[←Paired.length rel];exact z) (show A.units<kh from hu) (yF I.hok eb) dd λh' d2 hs=>h _ ?_;obtain⟨q,es,ep,hq,h2,h3,h4,_,h5⟩:=d2;refine zA I (by rw[e];exact True.intro) hs ⟨q,hq⟩ ⟨by omega,hd,_,(rel.put k eb rv).keeps λc ys ec=>?_,q,es,ep,hq,h2,h3,h4,h5⟩;rw[aJ (a9F ec e (λz=>nomatch z))];exact ec
noncomputable def abY(t:Bool)(tk tv:cB):cB:=λρ G R=>∀p,G p=aq->tk ρ (aL G p (.lF t [])) λy G1=>tv ρ G1 λv G2=>pY (.ref p) y G2 λa t' kvs k=>kvs.length<dg/\R (.ref p) (aL G2 a (.lF t' (zW kvs k v)))
theorem awB{k:jf}{t:Bool}(hu:X.A.units+64<kh)(hk:cF X k tk)(hv:cF X v tv):cF X (.Dict [aj k] [v] pos) (abY t tk tv):=by
 intro pins s σ H Q I h _tk;obtain⟨ρ,G,R,sr,g,q,kk⟩:=h;refine wpAny_Dict_any rfl rfl (by simp) (by simp) ?_
 let p:=s.heap.objs.size
 have fr:H p=aq:=I.hok.fresh (dw _)
 obtain⟨H0,I0,sn,g0,fG⟩:∃H0,Inv X pins σ H0 {s with heap:=s.heap.push {cls:=.type "dict",data:=.dict #[]},toks:=s.toks}/\Same H H0/\HR X.K H0 (aL G p (.lF t []))/\G p=aq:=by
  cases t with
  |false =>
   have sn:Same H (upd H p (.dK [])):=bB fr;have J:=I.laid (a:=p) (o:=.dK []) (t':=s.toks) (λ_ _ q=>cg _ q) (dw _) (ad7 s.heap I.big);exact⟨upd H p (.dK []),J,sn,g.put (u:=.lF ao []) fr (.inl ⟨rfl,[],aF,.nil⟩),gP g fr (oM J)⟩
  |true =>
   have sn:Same H (upd H p (.dT [])):=bB fr;have J:=I.laid (a:=p) (o:=.dT []) (t':=s.toks) (λ_ _ q=>cg _ q) (dw _) (ad8 s.heap I.big);exact⟨upd H p (.dT []),J,sn,g.put (u:=.lF ak []) fr (.inr ⟨rfl,[],aF,.nil⟩),gP g fr (oM J)⟩
 have t0:Ts H H0:=.same sn;refine pairTrees_cons_walk (cL (hk pins _ σ H0 (λvy H1=>Ts H0 H1/\∃y G1,RD X.K H1 y vy/\HR X.K H1 G1/\tv ρ G1 λv G2=>pY (.ref p) y G2 λa t' kvs k=>kvs.length<dg/\R (.ref p) (aL G2 a (.lF t' (zW kvs k v)))) I0 ⟨ρ,_,_,sr.mono t0,g0,q p fG,λvy H1 y G1 t1 r1 g1 q1=>⟨t1,y,G1,r1,g1,q1⟩⟩) ?_);rintro uy s1 ⟨vy,H1,I1,ry,t1,y,G1,rdy,g1,q1⟩;refine cL (hv pins s1 σ H1 (λvv H2=>Ts H1 H2/\∃d G2,RD X.K H2 d vv/\HR X.K H2 G2/\pY (.ref p) y G2 λa t' kvs k=>kvs.length<dg/\R (.ref p) (aL G2 a (.lF t' (zW kvs k d)))) I1 ⟨ρ,G1,_,sr.mono (t0.trans t1),g1,q1,λvv H2 d G2 t2 r2 g2 q2=>⟨t2,d,G2,r2,g2,q2⟩⟩) ?_;rintro uv s2 ⟨vv,H2,I2,rv,t2,d,G2,rdv,g2,q2⟩;refine pairTrees_nil_walk ?_;obtain⟨a,kvs,kd,ea,_,e1,_,⟨hl,q3⟩,dd⟩:=uW (.ref p) (rdy.mono t2) g2 q2;cases ea;obtain⟨H4,pp,tt,g4⟩:=dd.put g2 rdv hl;unfold storeAll;rw[a0h];refine au (au (alJ (by omega) I2 pp ry rv λs3 I3=>dh ?_));dsimp only;rw[List.forIn_nil];exact dh ⟨.ref p,H4,I3,rfl,kk _ H4 _ _ (((t0.trans t1).trans t2).trans tt) (.ref p) g4 q3⟩
end
end
variable{ep:Nat}{al:Bool}{apos cpos:Pos}
section
open PySem.W
structure Fz(X:Cx)(p:bx):Prop where
 free:∀ob,X.s₀.heap.get? p=aj ob->X.H₀ p=aq->p∈X.ex
 tup:∀xs,X.H₀ p≠aj (.tup xs)
 gK:∀o w,X.H₀ p≠aj (.gK o w)
 xH:∀ps,X.H₀ p≠aj (.xH ps)
variable{p:bx}
section
variable{pins:List (bx×Obj)}
theorem Fz.of(I:Inv X pins σ H s)(hu:H p=aj u)(h1:∀xs,u≠.tup xs)(h2:∀ob w,u≠.gK ob w)(h3:∀ps,u≠.xH ps):Fz X p:=by
 refine⟨λob q n=>?_,λxs q=>?_,λo w q=>?_,λps q=>?_⟩
 .apply Classical.byContradiction;intro hx;have:=I.base.free p ob q n hx;rw[hu]at this;cases this
 .have:=I.base.tups p xs q;rw[hu]at this;exact h1 xs (jk.inj this)
 .have:=I.base.fK p o w q;rw[hu]at this;exact h2 o w (jk.inj this)
 .obtain⟨more,this⟩:=I.base.nD p ps q;rw[hu]at this;exact h3 _ (jk.inj this)
end
section
variable{X:Cx}{pins:List (bx×Obj)}{s:cj}
theorem Inv.freeze(I:Inv X pins σ H s)(hu:H a=aj u)(h1:∀xs,u≠.tup xs)(h2:∀ob w,u≠.gK ob w)(h3:∀ps,u≠.xH ps)(h4:∀x,u≠.own x)(ho:s.heap.get? a=aj o):Inv X pins σ (upd H a (.gK o u)) s:=by
 have ne:∀{b:bx}{v:HO},H b=aj v->v≠u->b≠a:=λe n z=>by subst z;rw[hu]at e;exact n (jk.inj e).symm
 have no:∀{b:bx},H b=aq->upd H a (.gK o u) b=aq:=λ{b} e=>by
  rw[aJ];exact e;intro z;subst z;rw[hu]at e;cases e
 have kt:∀b xs,H b=aj (.tup xs)->upd H a (.gK o u) b=aj (.tup xs):=λb xs q=>by rw[aJ (ne q λz=>h1 xs z.symm)];exact q
 have kf:∀b ob w,H b=aj (.gK ob w)->upd H a (.gK o u) b=aj (.gK ob w):=λb ob w q=>by rw[aJ (ne q λz=>h2 ob w z.symm)];exact q
 have ko:∀b x,H b=aj (.own x)->upd H a (.gK o u) b=aj (.own x):=λb x q=>by rw[aJ (ne q λz=>h4 x z.symm)];exact q
 refine⟨I.ok,I.os,I.bare,⟨I.base.keep,I.base.slot,λb ob q n hx=>no (I.base.free b ob q n hx),I.base.there,λb xs q=>kt b xs (I.base.tups b xs q),λb ob w q=>kf b ob w (I.base.fK b ob w q),λb ps q=>?_⟩,I.loc,I.cell,no I.free,λx c e=>no (I.gM x c e),λp hp=>?_,λb v e=>?_,I.len,I.hnd.mono kf,λp hp=>kt _ _ (I.tup p hp)⟩
 .obtain⟨more,e⟩:=I.base.nD b ps q;exact⟨more,by rw[aJ (ne e λz=>h3 _ z.symm)];exact e⟩
 .obtain⟨z1,z2,z3⟩:=I.pin p hp;exact⟨z1,no z2,z3⟩
 .by_cases hb:b=a
  .subst hb;rw[aF]at e;obtain rfl:=jk.inj e;exact⟨ho,(I.hok b u hu).stay (λ_ _ _ q=>q) (λc q=>ko c _ q) λc xs q=>kt c xs q⟩
  .rw[aJ hb]at e;exact(I.hok b v e).stay (λ_ _ _ q=>q) (λc q=>ko c _ q) λc xs q=>kt c xs q
theorem aDK(r:KV ys vs):∀{i:Nat}{k:Key}{y:V},ys[i]?=aj (k,y)->∃u,vs[i]?=aj (k,u)/\RelV y u:=by
 induction r with
 |nil=>intro i k y e;simp at e
 |@cons p q _ _ h _ ih =>
  intro i k y e;cases i with
  |zero =>
   simp only[a2a,jk.injEq]at e;subst e;obtain⟨q1,q2⟩:=q;obtain⟨h1,h2⟩:=h;exact⟨q2,by simp only[a2a];rw[show q1=k from h1.symm],h2⟩
  |succ i=>simpa using ih (by simpa using e)
theorem awC{k:Key}{key:bh}(h:a4W k key=ak):RelV (kV k) key:=by
 rcases cT h with⟨i,t,e1,e2⟩|⟨i,t,e1,e2⟩
 .subst e1;exact⟨t,e2⟩
 .subst e1;exact⟨t,e2⟩
theorem aeB{od:Obj}{es:Array DictEntry}(I:Inv X pins σ H s)(hd:od.data=.dict es ep)(hq:H a=aj (.gK od (.dK ys))) :
  ∃vs,KV ys vs/\s.heap.DictAt (bH X.prog X.w) a vs ep/\vs.length=es.size/\(a==vd)=ao:=by
 obtain⟨hod,_⟩:=(show s.heap.get? a=aj od/\_ from I.hok a _ hq);obtain⟨_,hsm,vs,kv,o1,es1,ep1,g1,g2,g3,g4,g5,g6⟩:=xJ I.hok (.inr ⟨od,hq⟩);rw[hod]at g1;obtain rfl:=jk.inj g1;rw[hd]at g3;injection g3 with e1 e2;subst e1 e2;exact⟨vs,kv,⟨od,es,hod,g2,hd,g4,g5,g6⟩,by rw[←g5.length];simp,hsm⟩
end
noncomputable def Iti(a:bx)(od:Obj):It :=
 ⟨λi H=>∃ys:List (Key×V),H a=aj (.gK od (.dK ys))/\i<ys.length,
  λi H v H'=>∃(p:bx)(k:Key)(y:V),H p=aq/\v=.ref p/\H'=upd H p (.tup [kV k,y])/\∀ys,H a=aj (.gK od (.dK ys))->ys[i]?=aj (k,y),
  λi H=>∃ys:List (Key×V),H a=aj (.gK od (.dK ys))/\ys.length<=i⟩
theorem a6F{w:iy}{K:Fg}{pt:Pos}{od:Obj}{en:Array DictEntry}(hd:od.data=.dict en ep) :
  Turn ak tl P w K (.Tuple es kt pt) (Iti a od) [it] it (λi h=>∃ok ov,IsItemIter h it a i en.size ep ok ov) where
 mem:=by simp
 obj:=λi h st b hb=>by
  have e:b=it:=by simpa using hb
  subst e;obtain⟨ok,ov,e⟩:=st;exact⟨_,e,λv z=>nomatch z⟩
 keep:=λi h h' st k=>by
  obtain⟨ok,ov,e⟩:=st;exact⟨ok,ov,k it (by simp) _ e⟩
 item:=by
  intro X hP hw hK hcm ht i pins s σ H E I hf st hg;subst hP hw hK;obtain⟨ok,ov,hit⟩:=st;obtain⟨ys,hq,hi⟩:=hg;obtain⟨vs,kv,hm,hn,_⟩:=aeB I hd hq;have hx:ys[i]?=aj (ys[i].1,ys[i].2):=gw hi;obtain⟨u,hu,ru⟩:=aDK kv hx;have fr:=I.hok.fresh (dw s.heap.objs.size);have nit:s.heap.objs.size≠it:=yj (gk hit);refine wpAny_pyNext_items_item (knd:=bH X.prog X.w) (kvs:=vs) (by rw[hn];exact hit) hm hu λkey h' hkey hout htu hsz kk=>?_;refine⟨_,rfl,wpAny_letOwnedTupleGo_items (s:={s with heap:=h' }) hout λh2 hin sb=>?_⟩;have k2:∀b o,b∉[it]->s.heap.get? b=aj o->h2.get? b=aj o:=λb o hb e=>sb.extBut _ _ (λq=>hb (by simp[q])) (kk b o (λq=>hb (by simp[q])) e)
  refine⟨.ref s.heap.objs.size,upd H s.heap.objs.size (.tup [kV ys[i].1,ys[i].2]),I.wK (t':=s.toks) (ch:=[it]) k2 hf (dw _) ⟨show 2<=dg by decide,[key,u],.cons (awC hkey) (.cons ru .nil),⟨_,sb.extBut _ _ nit htu,rfl,_,rfl⟩⟩,rfl,
   ⟨_,ys[i].1,ys[i].2,fr,rfl,rfl,λzs z=>by rw[hq]at z;cases z;exact hx⟩,⟨_,_,by rw[hn]at hin;exact hin⟩,λb hb=>?_⟩
  have e:b=it:=by simpa using hb
  subst e;rw[aJ (Ne.symm nit)];exact(hf _ hb).1
 done:=by
  intro X hP hw hK hcm ht i pins s σ H E I hf st hg;subst hP hw hK;obtain⟨ok,ov,hit⟩:=st;obtain⟨ys,hq,hi⟩:=hg;obtain⟨vs,kv,hm,hn,_⟩:=aeB I hd hq;obtain⟨f0,f1,f2,f3,f4,f5⟩:=hf it (by simp);have hl:ys.length=vs.length:=Paired.length kv;exact wpAny_pyNext_items_end (knd:=bH X.prog X.w) (kvs:=vs) (I.ok.hd (hcm rfl)) (by rw[hn];exact hit) hm (a1e (by omega)) λh' eb=>⟨rfl,I.turned (t':=s.toks) (λb o hb e=>eb b o hb e) f0 f1 f3 f4 f5⟩
 self:=λ_ _ _ _ _ st h=>by
  obtain⟨ok,ov,hit⟩:=st;exact kcp_self hit h
theorem aDL{K:Fg}:∀k:Key,RD K H (kD k) (kV k)
 |.inl i=>.int i
 |.inr x=>.str x
theorem awD{α β:Type}{P:α->β->Prop}{as:List α}{bs:List β}(t:Two P as bs):∀{i:Nat}{b:β},bs[i]?=aj b->∃a,as[i]?=aj a/\P a b:=by
 induction t with
 |nil=>intro i b e;simp at e
 |@cons a b _ _ h _ ih =>
  intro i c e;cases i with
  |zero=>simp only[a2a,jk.injEq]at e;subst e;exact⟨a,rfl,h⟩
  |succ i=>simpa using ih (by simpa using e)
theorem aeC{K:Fg}:a1L K H1 (.itm p od kvs) (Iti p od):=λH2 G2 t g ok=>by
 have ok':G2 p=aj (.rdc od ao kvs):=ok;rcases g p _ ok' with⟨_,ys,e,tw⟩|⟨z,_⟩
 .have hl:(Src.itm p od kvs).items.length=ys.length:=by simp[Src.items,tw.length]
  refine⟨λi hi=>⟨ys,e,by rw[hl]at hi;exact hi⟩,λi v H' hi hy=>?_,⟨ys,e,by rw[hl];exact dw _⟩⟩;obtain⟨q,k,y,fr,rfl,rfl,hy⟩:=hy;obtain⟨⟨dk,d⟩,e2,r1,r2⟩:=awD tw (hy ys e);have r1:dk=.inl k:=r1;subst r1;have sn:Same H2 (upd H2 q (.tup [kV k,y])):=bB fr;exact⟨sn,.tup [kD k,d],by simp[Src.items,e2,dkD],.tup (oH.of aF) (.cons (aDL k) (.cons (r2.mono (.same sn)) .nil)) (adD aF)⟩
 .cases z
theorem aeD{K:Fg}:zQ K (.itm p od kvs) (Iti p od):=λH2 G2 g ok=>aeC (H1:=H2) H2 G2 (.refl _) g ok
def a6G(al:Bool)(x:D)(G1:Gp)(R:Src->Gp->Prop):Prop:=match x with
 |.ref p=>(match G1 p with
  |some (.lF ao kvs)=>∀od,R (.itm p od kvs) (aL G1 p (.rdc od ao kvs))
  |some (.rdc od ao kvs)=>al=ak/\R (.itm p od kvs) G1
  |_=>False)
 |_=>False
noncomputable def mL(al:Bool)(to:cB):TI3:=λρ G R=>to ρ G λx G1=>a6G al x G1 R
set_option tactic.hygienic true in
theorem apO{x:D}(h:a6G al x G1 R):∃p kvs,x=.ref p/\((G1 p=aj (.lF ao kvs)/\∀od,R (.itm p od kvs) (aL G1 p (.rdc od ao kvs)))∨∃od,G1 p=aj (.rdc od ao kvs)/\al=ak/\R (.itm p od kvs) G1):=by
 unfold a6G at h;split at h
 .rename_i p;split at h
  .rename_i kvs e;exact⟨p,kvs,rfl,.inl ⟨e,h⟩⟩
  .rename_i od kvs e;exact⟨p,kvs,rfl,.inr ⟨od,e,h⟩⟩
  .exact h.elim
 .exact h.elim
section
variable{X:Cx}
theorem a6H{o:jf}{to:cB}{es:List jf}{pt:Pos}(hc:X.calm=ak)(ho:cF X o to)
  (hbase:zx o "items" X.env (eval o X.env)=eval o X.env)(hline:(apos.endLine==cpos.line)=ak)(hSJ:∀H p od kvs,(al=ao->Fz X p)->SJ H (.itm p od kvs) (Iti p od)) :
  PI X (.Tuple es kt pt) (.Call (.Attribute o "items" apos) [] [] cpos) (λσ H Q=>∃ρ G R,SR X.K H ρ σ/\HR X.K H G/\mL al to ρ G R/\∀src J H' G',Ts H H'->HR X.K H' G'->SJ H' src J->R src G'->Q J H'):=by
 intro pins s σ H Q I h _tk;obtain⟨ρ,G,R,sr,g,q,kk⟩:=h;refine wpAny_Call_method0_late hbase hline (cL (ho pins s σ H (λvx H1=>Ts H H1/\∃x G1,RD X.K H1 x vx/\HR X.K H1 G1/\a6G al x G1 R) I ⟨ρ,G,_,sr,g,q,λv H1 x G1 t1 r1 g1 q1=>⟨t1,x,G1,r1,g1,q1⟩⟩) ?_);rintro v s1 ⟨vx,H1,I1,r1,t1,x1,G1,rx,g1,q1⟩;obtain⟨a,kvs,rfl,q2⟩:=apO q1;cases rx;obtain rfl:v=bh.ref a:=r1
 obtain⟨ys,ed⟩:∃ys:List (Key×V),Rd H1 a (.dK ys):=by
  rcases q2 with⟨e1,_⟩|⟨od,e1,_⟩
  .rcases g1 a _ e1 with⟨_,ys,e2,_⟩|⟨z,_⟩
   .exact⟨ys,.inl e2⟩
   .cases z
  .rcases g1 a _ e1 with⟨_,ys,e2,_⟩|⟨z,_⟩
   .exact⟨ys,.inr ⟨od,e2⟩⟩
   .cases z
 obtain⟨h1,h2,h3⟩:=anR I1 (.inl ⟨ys,ed⟩);refine⟨"dict","dict.items",PySem.F.plainAttrs_dict,PySem.F.slot_dict_items,PySem.F.type_dict_items,h1,h2,Calls.callWith_builtin rfl (PySem.evalArgs_none ?_)⟩;obtain⟨_,hsm,vs,kv,hd⟩:=xJ I1.hok ed;refine call_meetsIn PySem.F.slot_dict_items h1 PySem.F.entry_dict_items (PySem.F.args_dict_items_1 _) (meets_dict_items (bH X.prog X.w) a hsm) ⟨⟨vs,hd⟩,?_⟩;obtain⟨od,en,ep,o1,o2,o3,o4,o5,o6⟩:=hd;have I2:Inv X pins σ H1 {s1 with heap:=s1.heap.push {cls:=.type "dict_items",data:=.fields #[.ref a]},toks:=s1.toks}:=I1.kept λb o e=>cg _ e;have od2:(s1.heap.push {cls:=.type "dict_items",data:=.fields #[.ref a]}).get? a=aj od:=cg _ o1;have hm:(s1.heap.push {cls:=.type "dict_items",data:=.fields #[.ref a]}).DictAt (bH X.prog X.w) a vs ep:=⟨od,en,od2,o2,o3,o4,o5,o6⟩;have hln:vs.length=en.size:=by rw[←o5.length];simp
 show cu (fj X.prog X.w) X.A (pyIter (.ref s1.heap.objs.size)) (PIE X pins σ (.Tuple es kt pt) Q) X.xe {s1 with heap:=s1.heap.push {cls:=.type "dict_items",data:=.fields #[.ref a]}};generalize hh:s1.heap.push {cls:=.type "dict_items",data:=.fields #[.ref a]}=hp at *;have hv:hp.IsItemsView s1.heap.objs.size a:=⟨_,by rw[←hh];exact gV _ rfl,rfl,rfl⟩;refine wpAny_pyIter_items (s:={s1 with heap:=hp}) (knd:=bH X.prog X.w) hv hm ?_;have I3:Inv X pins σ H1 {s1 with heap:=hp.push {cls:=.type "dict_itemiterator",data:=.fields #[.none,.bool ao,.ref a,.int 0 0,.int vs.length 0,.int ep 0,.none,.none]},toks:=s1.toks}:=I2.kept λb o e=>cg _ e;have od3:(hp.push {cls:=.type "dict_itemiterator",data:=.fields #[.none,.bool ao,.ref a,.int 0 0,.int vs.length 0,.int ep 0,.none,.none]}).get? a=aj od:=cg _ od2
 have hit:IsItemIter (hp.push {cls:=.type "dict_itemiterator",data:=.fields #[.none,.bool ao,.ref a,.int 0 0,.int vs.length 0,.int ep 0,.none,.none]}) hp.objs.size a 0 en.size ep .none .none:=by
  rw[←hln];exact gV _ rfl
 have fr1:H1 hp.objs.size=aq:=I2.hok.fresh (dw _);rcases q2 with⟨e1,q3⟩|⟨od',e1,ha,q3⟩
 .rcases g1 a _ e1 with⟨_,zs,e2,tw⟩|⟨z,_⟩
  .have tt:Ts H1 (upd H1 a (.gK od (.dK zs))):=Ts.turn e2 (λxs z=>nomatch z) (λob w z=>nomatch z);have I4:=I3.freeze e2 (λxs z=>nomatch z) (λob w z=>nomatch z) (λps z=>nomatch z) (λx z=>nomatch z) od3;have g4:HR X.K (upd H1 a (.gK od (.dK zs))) (aL G1 a (.rdc od ao kvs)):=g1.turn tt (.inl ⟨rfl,zs,aF,tw.imp λ_ _ q=>⟨q.1,q.2.mono tt⟩⟩);have na:hp.objs.size≠a:=yj (gk od2);refine⟨hp.objs.size,[hp.objs.size],_,Iti a od,_,rfl,I4,(show Turn X.calm X.tp X.prog X.w X.K (.Tuple es kt pt) _ _ _ _ from hc ▸ a6F o3),⟨_,_,hit⟩,λb hb=>?_,kk _ _ _ _ (t1.trans tt) g4 (hSJ _ a od kvs λ_=>Fz.of I1 e2 (λxs z=>nomatch z) (λob w z=>nomatch z) (λps z=>nomatch z)) (q3 od)⟩;have e:b=hp.objs.size:=by simpa using hb
   subst e;exact I2.uH (dw _) (by rw[aJ na];exact fr1)
  .cases z
 .rcases g1 a _ e1 with⟨_,zs,e2,tw⟩|⟨z,_⟩
  .obtain⟨od4,_⟩:=(show s1.heap.get? a=aj od'/\_ from I1.hok a _ e2);rw[o1]at od4;obtain rfl:=jk.inj od4;refine⟨hp.objs.size,[hp.objs.size],_,Iti a od,_,rfl,I3,(show Turn X.calm X.tp X.prog X.w X.K (.Tuple es kt pt) _ _ _ _ from hc ▸ a6F o3),⟨_,_,hit⟩,λb hb=>?_,kk _ _ _ _ t1 g1 (hSJ _ a od kvs λz=>by rw[ha]at z;cases z) q3⟩;have e:b=hp.objs.size:=by simpa using hb
   subst e;exact I2.uH (dw _) fr1
  .cases z
theorem awE{pt:Pos}(hc:X.calm=ak)(ho:cF X o to)(hbase:zx o "items" X.env (eval o X.env)=eval o X.env)(hline:(apos.endLine==cpos.line)=ak) :
  PI3 X (.Tuple es kt pt) (.Call (.Attribute o "items" apos) [] [] cpos) (mL ak to):=a6H (SJ:=a1L X.K) hc ho hbase hline λ_ _ _ _ _=>aeC
theorem apP{pt:Pos}(hc:X.calm=ak)(ho:cF X o to)(hbase:zx o "items" X.env (eval o X.env)=eval o X.env)(hline:(apos.endLine==cpos.line)=ak) :
  PIS X (.Tuple es kt pt) (.Call (.Attribute o "items" apos) [] [] cpos) (mL ak to):=a6H (SJ:=λ_=>zQ X.K) hc ho hbase hline λ_ _ _ _ _=>aeD
end
section
end
section
variable{pins:List (bx×Obj)}{s:cj}
theorem apQ(I:Inv X pins σ H s)(d:IsD H a):∃od en ep,s.heap.get? a=aj od/\od.ExactDict/\od.data=.dict en ep/\(a==vd)=ao:=by
 rcases d with⟨kvs,e⟩|⟨kvs,e⟩
 .obtain⟨_,hd,vs,_,od,en,ep,h1,h2,h3,_⟩:=xJ I.hok e;exact⟨od,en,ep,h1,h2,h3,hd⟩
 .obtain⟨_,hd,vs,_,od,en,ep,h1,h2,h3,_⟩:=a2L I.hok e;exact⟨od,en,ep,h1,h2,h3,hd⟩
end
end
section
open PySem.W
structure Tt(H H':Hp):Prop where
 tups:∀a xs,H a=aj (.tup xs)->H' a=aj (.tup xs)
 aCD:∀a o xs,H a=aj (.gK o (.tup xs))->H' a=aj (.gK o (.tup xs))
 aDM:∀a o φ,H a=aj (.gK o (.ext φ))->H' a=aj (.gK o (.ext φ))
theorem Tt.sqT{K:Fg}(t:Tt H H')(h:oH K H a xs):oH K H' a xs:=by
 rcases h with(h|⟨o,h⟩)|h
 .exact .inl (.inl (t.tups _ _ h))
 .exact .inl (.inr ⟨o,t.aCD _ _ _ h⟩)
 .exact .inr h
theorem adC.gO(t:Tt H H')(h:adC H a xs):adC H' a xs:=trivial
mutual
theorem RD.gO{K:Fg}{H H':Hp}(t:Tt H H'):∀{d:D}{v:V},RD K H d v->RD K H' d v
 |_,_,.non=>.non
 |_,_,.bl b=>.bl b
 |_,_,.int i=>.int i
 |_,_,.str x=>.str x
 |_,_,.ty n=>.ty n
 |_,_,.ref a=>.ref a
 |_,_,.tup h r e=>.tup (t.sqT h) (bQ.gO t r) (e.gO t)
theorem bQ.gO{K:Fg}{H H':Hp}(t:Tt H H'):∀{ds:List D}{vs:List V},bQ K H ds vs->bQ K H' ds vs
 |_,_,.nil=>.nil
 |_,_,.cons h r=>.cons (RD.gO t h) (bQ.gO t r)
end
theorem SR.gO{K:Fg}(t:Tt H H'):∀{ρ:aN}{σ:St},SR K H ρ σ->SR K H' ρ σ
 |_,_,.nil=>.nil
 |_,_,.none r=>.none (SR.gO t r)
 |_,_,.some h r=>.some (h.gO t) (SR.gO t r)
theorem OR.aJQ{K:Fg}(t:Tt H H')(h:OR K H a o)(k:∀u,H a=aj u->H' a=aj u):OR K H' a o:=by
 cases o with
 |lst ds=>obtain⟨xs,e,r⟩:=h;exact⟨xs,k _ e,r.gO t⟩
 |rol ds =>
  obtain⟨xs,e,r⟩:=h;refine⟨xs,?_,r.gO t⟩;rcases e with(e|⟨o,e⟩)|e
  .exact .inl (.inl (k _ e))
  .exact .inl (.inr ⟨o,k _ e⟩)
  .exact .inr e
 |lF b kvs =>
  rcases h with⟨z,xs,e,r⟩|⟨z,xs,e,r⟩
  .exact .inl ⟨z,xs,k _ e,r.imp λ_ _ q=>⟨q.1,q.2.gO t⟩⟩
  .exact .inr ⟨z,xs,k _ e,r.imp λ_ _ q=>⟨q.1,q.2.gO t⟩⟩
 |ins C fs=>obtain⟨dx,vs,e,r⟩:=h;exact⟨dx,vs,k _ e,r.imp λ_ _ q=>⟨q.1,q.2.gO t⟩⟩
 |rdc ob b kvs =>
  rcases h with⟨z,xs,e,r⟩|⟨z,xs,e,r⟩
  .exact .inl ⟨z,xs,k _ e,r.imp λ_ _ q=>⟨q.1,q.2.gO t⟩⟩
  .exact .inr ⟨z,xs,k _ e,r.imp λ_ _ q=>⟨q.1,q.2.gO t⟩⟩
 |exn C=>obtain⟨o,vs,e,r⟩:=h;exact⟨o,vs,k _ e,r⟩
 |tpl ds=>obtain⟨xs,e,r⟩:=h;exact⟨xs,t.sqT e,r.gO t⟩
 |zJ kvs=>obtain⟨o,e,q⟩:=h;exact⟨o,k _ e,q.imp id λ⟨P,w,xs,e2,r⟩=>⟨P,w,xs,e2,Paired.agD r λ_ _ z=>⟨z.1,t.sqT z.2.1,z.2.2⟩⟩⟩
 |tab q p=>obtain⟨ps,e,r⟩:=h;exact⟨ps,k _ e,r.keep t.aDM⟩
 |clo c d=>obtain⟨cc,c',doc,pm,ctv,ob,u,v,e1,e2,e3,e4,e5,e6⟩:=h;exact⟨cc,c',doc,pm,ctv,ob,u,v,k _ e1,e2.keep t.aDM,t.aDM _ _ _ e3,e4,e5,e6.gO t⟩
variable{p:bx}
theorem apR{K:Fg}{t:Bool}(g:HR K H G)(e:G p=aj (.rdc od t kvs)) :
  ∃u,H p=aj (.gK od u)/\(∀xs,u≠.tup xs)/\(∀ob w,u≠.gK ob w)/\IsD H p/\Tt H (upd H p u)/\HR K (upd H p u) (aL G p (.lF t kvs)):=by
 have key:∀u,H p=aj (.gK od u)->(∀xs,u≠.tup xs)->(∀φ,u≠.ext φ)->Tt H (upd H p u):=λu hu h1 h2=>by
  refine⟨λa xs q=>?_,λa o xs q=>?_,λa o φ q=>?_⟩
  .rw[aJ];exact q;intro z;subst z;rw[hu]at q;cases q
  .rw[aJ];exact q;intro z;subst z;rw[hu]at q;cases q;exact h1 xs rfl
  .rw[aJ];exact q;intro z;subst z;rw[hu]at q;cases q;exact h2 φ rfl
 have rest:∀u,Tt H (upd H p u)->OR K (upd H p u) p (.lF t kvs)->HR K (upd H p u) (aL G p (.lF t kvs)):=λu tt new a v q=>by
  by_cases z:a=p
  .subst z;rw[aH]at q;obtain rfl:=jk.inj q;exact new
  .rw[bC z]at q;exact(g a v q).aJQ tt λw y=>by rw[aJ z];exact y
 rcases g p _ e with⟨z,xs,e2,tw⟩|⟨z,xs,e2,tw⟩
 .have tt:=key _ e2 (λxs z=>nomatch z) (λφ z=>nomatch z);exact⟨_,e2,(λxs z=>nomatch z),(λob w z=>nomatch z),.inl ⟨xs,.inr ⟨od,e2⟩⟩,tt,rest _ tt (.inl ⟨z,xs,aF,tw.imp λ_ _ q=>⟨q.1,q.2.gO tt⟩⟩)⟩
 .have tt:=key _ e2 (λxs z=>nomatch z) (λφ z=>nomatch z);exact⟨_,e2,(λxs z=>nomatch z),(λob w z=>nomatch z),.inr ⟨xs,.inr ⟨od,e2⟩⟩,tt,rest _ tt (.inr ⟨z,xs,aF,tw.imp λ_ _ q=>⟨q.1,q.2.gO tt⟩⟩)⟩
section
variable{pins:List (bx×Obj)}
theorem Inv.ah5(I:Inv X pins σ H s)(fz:Fz X p)(hu:H p=aj (.gK od u))(h1:∀xs,u≠.tup xs)(isd:IsD H p):Inv X pins σ (upd H p u) s:=by
 have ne:∀{b:bx}{v:HO},H b=aj v->v≠.gK od u->b≠p:=λe n z=>by subst z;rw[hu]at e;exact n (jk.inj e).symm
 have no:∀{b:bx},H b=aq->upd H p u b=aq:=λ{b} e=>by
  rw[aJ];exact e;intro z;subst z;rw[hu]at e;cases e
 have kt:∀b xs,H b=aj (.tup xs)->upd H p u b=aj (.tup xs):=λb xs q=>by rw[aJ (ne q λz=>nomatch z)];exact q
 have ko:∀b x,H b=aj (.own x)->upd H p u b=aj (.own x):=λb x q=>by rw[aJ (ne q λz=>nomatch z)];exact q
 obtain⟨ho,hok⟩:=(show s.heap.get? p=aj od/\dM X.prog X.w H s.heap p u from I.hok p _ hu);refine⟨I.ok,I.os,I.bare,⟨I.base.keep,I.base.slot,λb ob q n hx=>?_,I.base.there,λb xs q=>kt b xs (I.base.tups b xs q),λb ob w q=>?_,λb ps q=>?_⟩,I.loc,I.cell,no I.free,λx c e=>no (I.gM x c e),λq hq=>?_,λb v e=>?_,I.len,?_,λq hq=>kt _ _ (I.tup q hq)⟩
 .exact no (I.base.free b ob q n hx)
 .have:=I.base.fK b ob w q;rw[aJ];exact this;intro z;subst z;exact fz.gK ob w q
 .obtain⟨more,e⟩:=I.base.nD b ps q;exact⟨more,by rw[aJ (ne e λz=>nomatch z)];exact e⟩
 .obtain⟨z1,z2,z3⟩:=I.pin q hq;exact⟨z1,no z2,z3⟩
 .by_cases hb:b=p
  .subst hb;rw[aF]at e;obtain rfl:=jk.inj e;exact hok.stay (λ_ _ _ q=>q) (λc q=>ko c _ q) λc xs q=>kt c xs q
  .rw[aJ hb]at e;exact(I.hok b v e).stay (λ_ _ _ q=>q) (λc q=>ko c _ q) λc xs q=>kt c xs q
 .rcases I.hnd with z|⟨x,o,w,vs,a,b,c,d⟩
  .exact .inl z
  .refine .inr ⟨x,o,w,vs,a,?_,c,d⟩;rw[aJ];exact b;intro z;subst z;rw[hu]at b;cases b;obtain⟨od',en,ep,o1,_,o3,_⟩:=apQ I isd;rw[ho]at o1;cases o1;rw[o3]at c;cases c
end
noncomputable def Src.ah5(G:Gp):Src->Gp
 |.itm p _ kvs=>aL G p (.lF ao kvs)
 |.key p _ t kvs=>aL G p (.lF t kvs)
 |_=>G
noncomputable def FzS(X:Cx):Src->Prop
 |.itm p _ _=>Fz X p
 |.key p _ _ _=>Fz X p
 |_=>True
noncomputable def aOD(X:Cx)(t:TI3):TI:=λσ H Q=>∃ρ G R,SR X.K H ρ σ/\HR X.K H G/\t ρ G R/\∀src J H' G',Ts H H'->HR X.K H' G'->(zQ X.K src J/\FzS X src)->R src G'->Q J H'
abbrev PIF(X:Cx)(tg iter:jf)(t:TI3):Prop:=PI X tg iter (aOD X t)
section
variable{X:Cx}
theorem apS{pt:Pos}(hc:X.calm=ak)(ho:cF X o to)(hbase:zx o "items" X.env (eval o X.env)=eval o X.env)(hline:(apos.endLine==cpos.line)=ak) :
  PIF X (.Tuple es kt pt) (.Call (.Attribute o "items" apos) [] [] cpos) (mL ao to):=a6H (SJ:=λ_ src J=>zQ X.K src J/\FzS X src) hc ho hbase hline λ_ _ _ _ z=>⟨aeD,z rfl⟩
end
noncomputable def a4Q(ti:TI3)(tg:TG3)(tb:bI):bI:=λF ρ G=>ti ρ G λsrc G1=>∃P:Nat->aN->Gp->Prop,P 0 ρ G1/\(∀k ρ G,k<=src.items.length->P k ρ G->src.ok G) /\
 (∀k d ρ G,src.items[k]?=aj d->P k ρ G->tg d ρ λρ2=>tb {F with nx:=P (k+1),ct:=P (k+1),bk:=λρ G=>src.ok G/\F.nx ρ (src.ah5 G)} ρ2 G)/\∀ρ G,P src.items.length ρ G->F.nx ρ (src.ah5 G)
def ThN(X:Cx)(E:cQ)(σ:St)(H:Hp):Prop:=∃src ρ G,FzS X src/\SR X.K H ρ σ/\HR X.K H G/\src.ok G/\E.nx ρ (src.ah5 G)
theorem apT{X:Cx}{F:Ends}(u:UpD X.K E F)(I:Inv X pins σ H s)(h:ThN X E σ H):∃H',Inv X pins σ H' s/\F.nx σ H':=by
 obtain⟨src,ρ,G,fz,sr,g,ok,q⟩:=h
 have one:∀{p:bx}{od:Obj}{t:Bool}{kvs:List (DK×D)},Fz X p->G p=aj (.rdc od t kvs)->E.nx ρ (aL G p (.lF t kvs))->∃H',Inv X pins σ H' s/\F.nx σ H':=λfz e q=>by
  obtain⟨w,hw,w1,w2,isd,tt,g'⟩:=apR g e;exact⟨_,I.ah5 fz hw w1 isd,u.nx _ _ _ _ (sr.gO tt) g' q⟩
 cases src with
 |itm p o kvs=>exact one fz ok q
 |key p o t kvs=>exact one fz ok q
 |lst p xs=>exact⟨H,I,u.nx _ _ _ _ sr g q⟩
 |yZ xs=>exact⟨H,I,u.nx _ _ _ _ sr g q⟩
 |zip p r xs ys=>exact⟨H,I,u.nx _ _ _ _ sr g q⟩
 |tpl p xs=>exact⟨H,I,u.nx _ _ _ _ sr g q⟩
 |enu p xs=>exact⟨H,I,u.nx _ _ _ _ sr g q⟩
 |enl p xs=>exact⟨H,I,u.nx _ _ _ _ sr g q⟩
section
variable{X:Cx}
set_option tactic.hygienic true in
theorem awF{ti:TI3}{tg:TG3}(hp:PassesOwn (fj X.prog X.w) X.A X.env X.xe)(hi:PIF X tgt iter ti)(hg:PG3 X tgt tg)(hb:xE X body tb)
  (hs:∀x,a0l iter X.env x=pure x):PS3 X (.For tgt iter body [] pos) (a4Q ti tg tb):=by
 intro pins s σ H F I h _tk;obtain⟨ρ,G,E,sr,g,q,d⟩:=h;have key:=anD (pos:=pos) hp hi hg hb hs pins s σ H {F with nx:=ThN X E} I ⟨ρ,G,_,sr,g,q,λsrc J H1 G1 t1 g1 ⟨sj,fz⟩ ⟨P,p0,pok,pst,pend⟩=>?_⟩
 .refine cL key λf s' z=>?_;cases f with
  |next=>obtain⟨σ',H',J,z⟩:=z;obtain⟨H2,J2,z2⟩:=apT d J z;exact⟨σ',H2,J2,z2⟩
  |brk=>obtain⟨σ',H',J,z⟩:=z;exact⟨σ',H',J,z⟩
  |cont=>obtain⟨σ',H',J,z⟩:=z;exact⟨σ',H',J,z⟩
  |ret w=>obtain⟨w,σ',H',J,r,z⟩:=z;exact⟨w,σ',H',J,r,z⟩
 .refine adK (K:=X.K) (n:=src.items.length) (λk σ2 H2=>∃ρ' G',SR X.K H2 ρ' σ2/\HR X.K H2 G'/\P k ρ' G') ⟨ρ,G1,sr.mono t1,g1,p0⟩ (λσ2 H2 ⟨ρ',G',s2,g2,p⟩=>?_) (λk σ2 H2 hk ⟨ρ',G',s2,g2,p⟩=>?_) (λk y σ2 H2 H3 hk ⟨ρ',G',s2,g2,p⟩ hy=>?_)
   (λσ2 H2 ⟨ρ',G',s2,g2,p⟩=>⟨src,ρ',G',fz,s2,g2,pok _ ρ' G' (dw _) p,pend ρ' G' p⟩)
  .exact(sj H2 G' g2 (pok _ ρ' G' (dw _) p)).2.2
  .exact(sj H2 G' g2 (pok _ ρ' G' (ur hk) p)).1 k hk
  .obtain⟨sm,dk,e1,e2⟩:=(sj H2 G' g2 (pok _ ρ' G' (ur hk) p)).2.1 k y H3 hk hy;refine⟨ρ',dk,_,s2.mono (.same sm),e2,pst k dk ρ' G' e1 p,λρ2 σ3 s3 q3=>?_⟩;exact⟨ρ2,G',_,s3,g2.same sm,q3,⟨λρ4 G4 σ4 H4 s4 g4 q4=>⟨ρ4,G4,s4,g4,q4⟩,d.rt,λρ4 G4 σ4 H4 s4 g4 q4=>⟨src,ρ4,G4,fz,s4,g4,q4.1,q4.2⟩,λρ4 G4 σ4 H4 s4 g4 q4=>⟨ρ4,G4,s4,g4,q4⟩⟩⟩
end
end
section
open PySem.W
section
end
end
section
noncomputable def Ite(K:Fg)(a:bx):It :=
 ⟨λi H=>∃xs x,oH K H a xs/\xs[i]?=aj x,
  λi H v H'=>∃p x,H p=aq/\v=.ref p/\H'=upd H p (.tup [.int i,x])/\∀xs,oH K H a xs->xs[i]?=aj x,
  λi H=>∃xs,oH K H a xs/\xs.length=i⟩
def aOE(e it l:bx)(i:Nat)(h:jj):Prop:=(∃old,IsEnum h e it i old)/\h.IsTupleIter it l i
theorem alK{w:iy}{K:Fg}{pt:Pos}(hei:e≠it)(hl:l≠it)(hle:e≠l):Turn ak tl P w K (.Tuple es kt pt) (Ite K l) [e,it] e (aOE e it l) where
 mem:=by simp
 obj:=λi h st b hb=>by
  obtain⟨⟨old,he⟩,⟨o,e1,_,d1⟩⟩:=st;simp only[jm,qj,or_false]at hb;rcases hb with rfl|rfl
  .exact⟨_,he,λv z=>nomatch z⟩
  .exact⟨o,e1,λv z=>by rw[d1]at z;cases z⟩
 keep:=λi h h' st k=>by
  obtain⟨⟨old,he⟩,s1⟩:=st;exact⟨⟨old,k e (by simp) _ he⟩,s1.at λo x=>k it (by simp) o x⟩
 item:=by
  intro X hP hw hK hcm ht i pins s σ H E I hf st hg;subst hP hw hK;obtain⟨⟨old,he⟩,hit⟩:=st;obtain⟨xs,x,q,ex⟩:=hg;obtain⟨us,r,p,_⟩:=I.tuple q;obtain⟨u,hu,ru⟩:=r.get ex;have hlt:i<us.toArray.size:=by simpa using(gj.mp hu).1
  have fr:=I.hok.fresh (dw s.heap.objs.size);have lt:∀{c o},s.heap.get? c=aj o->s.heap.objs.size≠c:=λe=>yj (gk e);have n1:s.heap.objs.size≠it:=by obtain⟨_,e,_⟩:=hit;exact lt e
  have D:=a9Q (prog:=X.prog) (w:=X.w) (A:=X.A.in1) (I.ok.hd (hcm rfl)) it l hl us.toArray;refine wpAny_pyNext_enum_itemD D he ⟨hit,p⟩ hlt hei (by simp[hei,hle]) λx' h' tk hx' ho st' hT hsz hk=>?_;have ex':x'=u:=by simpa[hu]using hx'.symm
  subst ex';refine⟨_,rfl,wpAny_letOwnedTupleGo_enum (s:={s with heap:=h',toks:=tk+1}) ho λh2 he2 sb=>?_⟩
  have k2:∀b o,b∉[e,it]->s.heap.get? b=aj o->h2.get? b=aj o:=λb o hb q =>
   sb.extBut _ _ (λz=>hb (by simp[z])) (hk b o (λz=>hb (by simp[z])) (λz=>hb (by simp[z])) q)
  refine⟨.ref s.heap.objs.size,upd H s.heap.objs.size (.tup [.int i,x]),I.wK (t':=tk+1) (ch:=[e,it]) k2 hf (dw _) ⟨show 2<=dg by decide,[.int i tk,x'],.cons ⟨tk,rfl⟩ (.cons ru .nil),⟨_,sb.extBut _ _ (lt he) hT,rfl,_,rfl⟩⟩,rfl,
   ⟨_,x,fr,rfl,rfl,λxs' q'=>by rw[I.wG q' q];exact ex⟩,⟨⟨x',by simpa using he2⟩,st'.1.extBut sb.extBut (Ne.symm hei)⟩,λb hb=>?_⟩
  have hb2:=hb;simp only[jm,qj,or_false]at hb2;rw[aJ]
  .exact(hf b hb).1
  .intro q;rcases hb2 with e|e
   .exact lt he (q.symm.trans e)
   .exact n1 (q.symm.trans e)
 done:=by
  intro X hP hw hK hcm ht i pins s σ H E I hf st hg;subst hP hw hK;obtain⟨⟨old,he⟩,hit⟩:=st;obtain⟨xs,q,hl2⟩:=hg;obtain⟨us,r,p,_⟩:=I.tuple q;have hn:us.toArray.size=i:=by rw[dj,←r.length];exact hl2
  have D:=a9Q (prog:=X.prog) (w:=X.w) (A:=X.A.in1) (I.ok.hd (hcm rfl)) it l hl us.toArray;exact wpAny_pyNext_enum_endD D he ⟨hn ▸ hit,p⟩ λh' hx=>⟨rfl,I.zV (t':=s.toks) (ch:=[e,it]) (λb o hb q=>hx b o (λz=>hb (by simp[z])) q) hf⟩
 self:=λ_ _ _ _ _ st h=>a2b st.1.choose_spec h
theorem zZ{xs:List D}:(enm xs).length=xs.length:=by simp[enm]
theorem abZ{i:Nat}{x:D}(h:xs[i]?=aj x):(enm xs)[i]?=aj (.tup [.int i,x]):=by
 unfold enm;rw[nu,List.getElem?_zipIdx,h];simp
variable{p:bx}
theorem apU{K:Fg}:zQ K (.enu p xs) (Ite K p):=λH2 G2 g ok=>by
 obtain⟨vs,hq,rv⟩:=g p _ ok;have hl:(Src.enu p xs).items.length=xs.length:=zZ;refine⟨λi hi=>?_,λi v H' hi hy=>?_,⟨vs,hq,by rw[hl];exact rv.length.symm⟩⟩
 .rw[hl]at hi;obtain⟨y,e1,_⟩:=rv.get (gw hi);exact⟨vs,y,hq,e1⟩
 .obtain⟨a,x,fr,rfl,rfl,h1⟩:=hy;obtain⟨d,e1,e2⟩:=rv.adE (h1 vs hq);have sn:Same H2 (upd H2 a (.tup [.int i,x])):=bB fr;exact⟨sn,.tup [.int i,d],abZ e1,.tup (oH.of aF) (.cons (.int i) (.cons (e2.mono (.same sn)) .nil)) (adD aF)⟩
noncomputable def Itm(K:Fg)(a:bx):It :=
 ⟨λi H=>∃xs x,pO K H a xs/\xs[i]?=aj x,
  λi H v H'=>∃p x,H p=aq/\v=.ref p/\H'=upd H p (.tup [.int i,x])/\∀xs,pO K H a xs->xs[i]?=aj x,
  λi H=>∃xs,pO K H a xs/\xs.length=i⟩
def aOF(e it l:bx)(i:Nat)(h:jj):Prop:=(∃old,IsEnum h e it i old)/\h.IsListIter it l i
theorem alL{w:iy}{K:Fg}{pt:Pos}(hei:e≠it)(hl:l≠it)(hle:e≠l):Turn ak tl P w K (.Tuple es kt pt) (Itm K l) [e,it] e (aOF e it l) where
 mem:=by simp
 obj:=λi h st b hb=>by
  obtain⟨⟨old,he⟩,⟨o,e1,_,d1⟩⟩:=st;simp only[jm,qj,or_false]at hb;rcases hb with rfl|rfl
  .exact⟨_,he,λv z=>nomatch z⟩
  .exact⟨o,e1,λv z=>by rw[d1]at z;cases z⟩
 keep:=λi h h' st k=>by
  obtain⟨⟨old,he⟩,s1⟩:=st;exact⟨⟨old,k e (by simp) _ he⟩,s1.at λo x=>k it (by simp) o x⟩
 item:=by
  intro X hP hw hK hcm ht i pins s σ H E I hf st hg;subst hP hw hK;obtain⟨⟨old,he⟩,hit⟩:=st;obtain⟨xs,x,q,ex⟩:=hg;obtain⟨us,r,p,_⟩:=I.list q;obtain⟨u,hu,ru⟩:=r.get ex;have hlt:i<us.toArray.size:=by simpa using(gj.mp hu).1
  have fr:=I.hok.fresh (dw s.heap.objs.size);have lt:∀{c o},s.heap.get? c=aj o->s.heap.objs.size≠c:=λe=>yj (gk e);have n1:s.heap.objs.size≠it:=by obtain⟨_,e,_⟩:=hit;exact lt e
  have D:=Draws.list (prog:=X.prog) (w:=X.w) (A:=X.A.in1) (I.ok.hd (hcm rfl)) it l hl us.toArray;refine wpAny_pyNext_enum_itemD D he ⟨hit,p.isList⟩ hlt hei (by simp[hei,hle]) λx' h' tk hx' ho st' hT hsz hk=>?_;have ex':x'=u:=by simpa[hu]using hx'.symm
  subst ex';refine⟨_,rfl,wpAny_letOwnedTupleGo_enum (s:={s with heap:=h',toks:=tk+1}) ho λh2 he2 sb=>?_⟩
  have k2:∀b o,b∉[e,it]->s.heap.get? b=aj o->h2.get? b=aj o:=λb o hb q =>
   sb.extBut _ _ (λz=>hb (by simp[z])) (hk b o (λz=>hb (by simp[z])) (λz=>hb (by simp[z])) q)
  refine⟨.ref s.heap.objs.size,upd H s.heap.objs.size (.tup [.int i,x]),I.wK (t':=tk+1) (ch:=[e,it]) k2 hf (dw _) ⟨show 2<=dg by decide,[.int i tk,x'],.cons ⟨tk,rfl⟩ (.cons ru .nil),⟨_,sb.extBut _ _ (lt he) hT,rfl,_,rfl⟩⟩,rfl,
   ⟨_,x,fr,rfl,rfl,λxs' q'=>by rw[I.z6 q' q];exact ex⟩,⟨⟨x',by simpa using he2⟩,st'.1.extBut sb.extBut (Ne.symm hei)⟩,λb hb=>?_⟩
  have hb2:=hb;simp only[jm,qj,or_false]at hb2;rw[aJ]
  .exact(hf b hb).1
  .intro q;rcases hb2 with e|e
   .exact lt he (q.symm.trans e)
   .exact n1 (q.symm.trans e)
 done:=by
  intro X hP hw hK hcm ht i pins s σ H E I hf st hg;subst hP hw hK;obtain⟨⟨old,he⟩,hit⟩:=st;obtain⟨xs,q,hl2⟩:=hg;obtain⟨us,r,p,_⟩:=I.list q;have hn:us.toArray.size=i:=by rw[dj,←r.length];exact hl2
  have D:=Draws.list (prog:=X.prog) (w:=X.w) (A:=X.A.in1) (I.ok.hd (hcm rfl)) it l hl us.toArray;exact wpAny_pyNext_enum_endD D he ⟨hn ▸ hit,p.isList⟩ λh' hx=>⟨rfl,I.zV (t':=s.toks) (ch:=[e,it]) (λb o hb q=>hx b o (λz=>hb (by simp[z])) q) hf⟩
 self:=λ_ _ _ _ _ st h=>a2b st.1.choose_spec h
theorem apV{K:Fg}:zQ K (.enl p xs) (Itm K p):=λH2 G2 g ok=>by
 obtain⟨vs,hq,rv⟩:=bM g ok;have hl:(Src.enl p xs).items.length=xs.length:=zZ;refine⟨λi hi=>?_,λi v H' hi hy=>?_,⟨vs,hq,by rw[hl];exact rv.length.symm⟩⟩
 .rw[hl]at hi;obtain⟨y,e1,_⟩:=rv.get (gw hi);exact⟨vs,y,hq,e1⟩
 .obtain⟨a,x,fr,rfl,rfl,h1⟩:=hy;obtain⟨d,e1,e2⟩:=rv.adE (h1 vs hq);have sn:Same H2 (upd H2 a (.tup [.int i,x])):=bB fr;exact⟨sn,.tup [.int i,d],abZ e1,.tup (oH.of aF) (.cons (.int i) (.cons (e2.mono (.same sn)) .nil)) (adD aF)⟩
noncomputable def a1T(ta:nH):TI3:=λρ G R=>ta ρ G λxs G1=>match xs with
 |[.tup ds]=>ds.all scD=ak/\∀a,(G1 a=aq∨G1 a=aj (.tpl ds))->R (.enu a ds) (aL G1 a (.tpl ds))
 |[.ref a]=>∃ds,aM G1 a=aj ds/\R (.enl a ds) G1
 |_=>False
section
variable{X:Cx}{kt:Nat}{pt:Pos}
set_option tactic.hygienic true in
theorem aj7{p:Pos}(hc:X.calm=ak)(hg:Gl X "enumerate")(hm:X.mg "enumerate"=aq)(hv:jr "enumerate"=aj (.type "enumerate"))(ha:PA3 X [a] ta)(hs:je [a] X.env=[(ao,eval a X.env)]):PIS X (.Tuple es kt pt) (.Call (.Name "enumerate" p) [a] [] pos) (a1T ta):=by
 intro pins s σ H R I h _tk;obtain⟨ρ,G,R3,sr,g,q,k⟩:=h
 refine Call_ (rJ I hg hm hv (PyProof.Rows.callWith_type1 (cL (ha pos pins s σ H (λvs H1=>Ts H H1/\∃ds G1,bQ X.K H1 ds vs/\HR X.K H1 G1/\(match ds with
  |[.tup ds]=>ds.all scD=ak/\∀a,(G1 a=aq∨G1 a=aj (.tpl ds))->R3 (.enu a ds) (aL G1 a (.tpl ds))
  |[.ref a]=>∃ds,aM G1 a=aj ds/\R3 (.enl a ds) G1
  |_=>False)) I ⟨ρ,G,_,sr,g,q,λvs H1 ds G1 t1 r1 g1 q1=>⟨t1,ds,G1,r1,g1,q1⟩⟩) λus s1 ⟨vs,H1,I1,rr,t1,ds,G1,r1,g1,q1⟩=>?_) hs rfl))
 split at q1
 .rename_i ds;obtain⟨sc,q1⟩:=q1;cases r1 with
  |cons ra rb =>
   cases rb;cases ra with
   |@tup l xs _ hq rv =>
    cases rr with
    |cons ru rn =>
     cases rn;cases ru;obtain⟨its,rv',pp,hz⟩:=I1.tuple hq;obtain⟨hG,g2⟩:=aj0 I1 g1 hq rv sc;have al:l<s1.heap.objs.size:=pp.lt;refine a8P (show s1.heap.IsTuple l its.toArray from pp) λh' he hi hsz kk=>a2b (s:={s1 with heap:=h' }) he ?_;refine⟨_,_,_,_,H1,rfl,I1.kept (t':=s1.toks) kk,(show Turn X.calm X.tp X.prog X.w X.K (.Tuple es kt pt) _ _ _ _ from hc ▸ alK (e:=s1.heap.objs.size+1) (it:=s1.heap.objs.size) (l:=l) (Nat.succ_ne_self _) (jd al) (yj (a1d al))),⟨⟨_,he⟩,hi⟩,λb hb=>?_,k _ _ H1 _ t1 g2 apU (q1 l hG)⟩
     have hb':s1.heap.objs.size<=b:=by
      simp only[jm,qj,or_false]at hb;rcases hb with e|e<;>rw[e]
      .exact a1g _ _
      .exact dw _
     exact I1.uH hb' (I1.hok.fresh hb')
 .rename_i l;obtain⟨ds,e1,q1⟩:=q1;cases r1 with
  |cons ra rb =>
   cases rb;cases ra;cases rr with
   |cons ru rn =>
    cases rn;cases ru;obtain⟨xs,hq,rv⟩:=bM g1 e1;obtain⟨its,rv',pp,hz⟩:=I1.list hq
    have al:l<s1.heap.objs.size:=by
     obtain⟨o,ho,_⟩:=pp.isList;exact gk ho
    refine call_enumerate_list pp.isList λh' he hi hsz kk=>a2b (s:={s1 with heap:=h' }) he ?_;refine⟨_,_,_,_,H1,rfl,I1.kept (t':=s1.toks) kk,(show Turn X.calm X.tp X.prog X.w X.K (.Tuple es kt pt) _ _ _ _ from hc ▸ alL (e:=s1.heap.objs.size+1) (it:=s1.heap.objs.size) (l:=l) (Nat.succ_ne_self _) (jd al) (yj (a1d al))),⟨⟨_,he⟩,hi⟩,λb hb=>?_,k _ _ H1 _ t1 g1 apV q1⟩
    have hb':s1.heap.objs.size<=b:=by
     simp only[jm,qj,or_false]at hb;rcases hb with e|e<;>rw[e]
     .exact a1g _ _
     .exact dw _
    exact I1.uH hb' (I1.hok.fresh hb')
 .exact q1.elim
noncomputable def ltP(a:Int)(ns:List Int)(b:Int)(ms:List Int):Bool:=if a=b then(if ns=ms then ao else HT.lexLt ns ms)else decide (a<b)
noncomputable def ac0:List D->Gp->fL->Prop:=λxs G R=>∃(a b:Int)(ns ms:List Int),xs=[.tup [.int a,.tup (ns.map D.int)],.tup [.int b,.tup (ms.map D.int)]]/\R (if ltP b ms a ns then .tup [.int b,.tup (ms.map D.int)]else .tup [.int a,.tup (ns.map D.int)]) G
theorem wM{K:Fg}:∀{ns:List Int}{vs:List V},bQ K H (ns.map D.int) vs->vs=ns.map V.int
 |[],_,.nil=>rfl
 |n::ns,_,.cons r rr=>by cases r;rw[wM rr];rfl
theorem aaB:∀(ns ms:List Int),pG (ns.map D.int) (ms.map D.int)=decide (ns=ms)
 |[],[]=>rfl
 |[],_::_=>rfl
 |_::_,[]=>rfl
 |n::ns,m::ms=>by
  show(eqP (.int n) (.int m)&&pG (ns.map D.int) (ms.map D.int))=_;rw[aaB ns ms];have:eqP (.int n) (.int m)=decide (n=m):=by rw[eqP];exact Bool.eq_iff_iff.mpr (by simp)
  rw[this];simp[Bool.decide_and]
theorem aaC(n:Nat)(ns:List Int):aV (n+1) (.tup (ns.map D.int))=ak:=by
 simp only[aV,jq,jz];rintro x ⟨i,_,rfl⟩;cases n<;>rfl
theorem aDN(hc:X.calm=ak)(hu:X.A.units+64<kh):cD X (.builtin "min") ac0:=by
 intro pins s σ H xs vs us G R Q I rx rv g q k;obtain⟨a,b,ns,ms,rfl,q⟩:=q
 .cases rx with
  |cons r1 rx =>
  cases rx with
  |cons r2 rx =>
  cases rx;have R1:=r1;have R2:=r2;cases r1 with
  |@tup l1 xs1 _ sq1 rr1 ct1 =>
  cases r2 with
  |@tup l2 xs2 _ sq2 rr2 ct2 =>
  cases rr1 with
  |cons i1 rr1 =>
  cases rr1 with
  |cons t1 rr1 =>
  cases rr1;cases rr2 with
  |cons i2 rr2 =>
  cases rr2 with
  |cons t2 rr2 =>
  cases rr2;have T1:=t1;have T2:=t2;cases i1;cases i2;cases t1 with
  |@tup m1 ys1 _ sm1 rs1 =>
  cases t2 with
  |@tup m2 ys2 _ sm2 rs2 =>
  cases rv with
  |cons v1 rv =>
  cases rv with
  |cons v2 rv =>
  cases rv;cases v1;cases v2;obtain rfl:=wM rs1;obtain rfl:=wM rs2;refine adB (k:=ltP b ms a ns) (I.ok.hd hc) (λh2 tk Q2 E2 kk hQ=>?_) λh' tk kk=>?_
  .have I2:Inv X pins σ H {s with heap:=h2,toks:=tk}:=I.kept kk;obtain⟨j1,w1,p1,_⟩:=I2.tuple sq1;obtain⟨j2,w2,p2,_⟩:=I2.tuple sq2;obtain⟨z1,y1,q1,_⟩:=I2.tuple sm1;obtain⟨z2,y2,q2,_⟩:=I2.tuple sm2;cases w1 with
   |cons a1 w1 =>
   cases w1 with
   |cons a2 w1 =>
   cases w1;cases w2 with
   |cons b1 w2 =>
   cases w2 with
   |cons b2 w2 =>
   cases w2;obtain⟨tA,rfl⟩:=a1;obtain⟨tB,rfl⟩:=b1;cases a2;cases b2;obtain⟨⟨c1,dd1,data1,sl1⟩,ho1,hc1,n1,hd1⟩:=id p1;obtain⟨⟨c2,dd2,data2,sl2⟩,ho2,hc2,n2,hd2⟩:=id p2;simp only at hc1 hd1 hc2 hd2;subst hc1 hd1 hc2 hd2
   have e1:∀(A:iw),A.units+8<kh->SeqAt.EqAt A {s with heap:=h2,toks:=tk} (.int b tB) (.int a tA) (decide (b=a)):=λA hA=>by
    have:=yH I2 8 A (.int b) (.int a) (.int b) (.int a) (.int b tB) (.int a tA) hA rfl rfl (.int b) (.int a) ⟨tB,rfl⟩ ⟨tA,rfl⟩;have e:eqP (.int b) (.int a)=decide (b=a):=by rw[eqP];exact Bool.eq_iff_iff.mpr (by simp)
    rw[e]at this;exact this
   have e2:∀(A:iw),A.units+8<kh->SeqAt.EqAt A {s with heap:=h2,toks:=tk} (.ref m2) (.ref m1) (decide (ms=ns)):=λA hA=>by
    have:=yH I2 8 A _ _ _ _ (.ref m2) (.ref m1) hA (aaC 7 ms) (aaC 7 ns) T2 T1 rfl rfl;rw[eqP,aaB]at this;exact this
   refine richCompare_meets_room (op:=.Lt) ⟨_,ho2,rfl⟩ ⟨_,ho1,rfl⟩ PySem.F.slot_tuple_lt PySem.F.entry_tuple_lt (PySem.F.args_tuple_lt_2 _ _) (abA l2 l1 (.int b tB) (.ref m2) (.int a tA) (.ref m1) n2 n1 dd2 dd1 sl2 sl1 (decide (b=a)) (decide (ms=ns)) (decide (b<a)) (HT.lexLt ms ns))
    ⟨ho2,ho1,e1 _ ?_,e2 _ ?_,λ_ prog w E Q h=>HT.a5I _ _ b tB a tA prog w E Q h,λ_ _ prog w E Q h=>HT.agK q2 q1 (intsAre_of y2) (intsAre_of y1) ?_ h,(λx=>nomatch x),?_⟩ ?_
   .show X.A.units+1+1+8<kh;omega
   .show X.A.units+1+1+8<kh;omega
   .show X.A.units+1+1<kh;omega
   .have e:(if decide (b=a)=ak then(if decide (ms=ns)=ak then ao else HT.lexLt ms ns)else decide (b<a))=ltP b ms a ns:=by
     unfold ltP;simp only[decide_eq_true_eq]
    rw[e];exact hQ
   .show X.A.units+1<kh;omega
  .cases e:ltP b ms a ns with
   |true =>
    rw[e]at q;exact⟨.ref l2,H,I.kept kk,rfl,k _ H _ G (.refl H) R2 g (by simpa using q)⟩
   |false =>
    rw[e]at q;exact⟨.ref l1,H,I.kept kk,rfl,k _ H _ G (.refl H) R1 g (by simpa using q)⟩
end
end
section
section
open Classical in
end
end
section
open PySem.W
section
end
section
end
end
section
open PySem.W
section
variable{X:Cx}
noncomputable def VS:List Str->List V->List (bh×bh)->Prop
 |[],[],[]=>True
 |k::ks,w::ws,u::us=>(∃t,u.1=.str k t)/\RelV w u.2/\VS ks ws us
 |_,_,_=>False
noncomputable def PDs(X:Cx)(pos:Pos)(keys:List (Option jf))(values:List jf)(ks:List Str)(t:nH):Prop :=
 ∀(pins:List (bx×Obj))(s:cj)(σ:St)(H:Hp)(Q:List V->Hp->Prop),Inv X pins σ H s->upA X.K t σ H Q->[Tk X.need s] ->
  cu (fj X.prog X.w) X.A (evalPairs (pairTrees keys values X.env pos)) (λus s'=>∃ws H',Inv X pins σ H' s'/\VS ks ws us/\Q ws H') X.xe s
theorem awG:PDs X pos [] [] [] aC:=λpins s σ H Q I h=>by
 obtain⟨ρ,G,R,sr,g,q,kk⟩:=h;exact pairTrees_nil_walk ⟨[],H,I,trivial,kk [] H [] G (.refl H) .nil g q⟩
theorem apW{j1:Nat}{k:Str}{t:nH}(hv:cF X v tv)(hr:PDs X pos keys values ks t) :
  PDs X pos (aj (.Constant (.str k) j1 p1)::keys) (v::values) (k::ks) (aA tv t):=λpins s σ H Q I h=>by
 obtain⟨ρ,G,R,sr,g,q,kk⟩:=h;refine pairTrees_cons_walk (Calls.Constant_str (k:=j1) (pos:=p1) ?_);refine cL (hv pins _ σ H (λvv H1=>Ts H H1/\∃d G1,RD X.K H1 d vv/\HR X.K H1 G1/\t ρ G1 λds G2=>R (d::ds) G2) (I.tok _) ⟨ρ,G,_,sr,g,q,λvv H1 d G1 t1 r1 g1 q1=>⟨t1,d,G1,r1,g1,q1⟩⟩) ?_;rintro uv s2 ⟨vv,H1,I1,rv,t1,d,G1,rd,g1,q1⟩;exact cL (hr pins s2 σ H1 (λws H2=>Ts H1 H2/\∃ds G2,bQ X.K H2 ds ws/\HR X.K H2 G2/\R (d::ds) G2) I1 ⟨ρ,G1,_,sr.mono t1,g1,q1,λws H2 ds G2 t2 r2 g2 q2=>⟨t2,ds,G2,r2,g2,q2⟩⟩) (by rintro us s3 ⟨ws,H2,I2,vs,t2,ds,G2,rds,g2,q2⟩;exact⟨vv::ws,H2,I2,⟨⟨_,rfl⟩,rv,vs⟩,kk (vv::ws) H2 (d::ds) G2 (t1.trans t2) (.cons (rd.mono t2) rds) g2 q2⟩)
end
end
section
open PySem.W
structure aeE(qt:Bool)(P:jt)(w:iy)(K:ig)(mg:Str->Option bh)(base:jj)(CX:CXT)(k:Nat)(f:bx)(fd:ju)(ps:List Str)(sp:Sp):Prop where
 len:∀vs H Q E,sp vs H Q E->vs.length=ps.length
 run:∀(A:iw)(outer:List Env)(s:cj)(H:Hp)(args:Args)(us:List bh)(vs:List V)(Q:VK)(E:XK),d9 qt k A->yD P w K mg base A outer s H->BindsTo s fd args (ps.zip us)->Vals vs us->sp vs H Q E->0<s.toks ->
  yu (fj P w) A (.call (.ref f) args) (CR CX outer P w H s Q E) s
theorem aeE.mono{qt:Bool}{w:iy}{K:ig}{mg:Str->Option bh}{base:jj}{j k:Nat}(F:aeE qt P w K mg base CX j f fd ps sp)(h:j<=k):aeE qt P w K mg base CX k f fd ps sp :=
 ⟨F.len,λA outer s H args us vs Q E hr=>F.run A outer s H args us vs Q E (hr.mono h)⟩
section
end
end
section
open PySem.W
section
end
end
section
open PySem.W
section
variable{X:Cx}{pins:List (bx×Obj)}{s:cj}
theorem awH(I:Inv X pins σ H s)(r:RD X.K H (.tup (ns.map D.int)) (.ref b)):∃its,IsTup s.heap b its/\a0d its.toList ns:=by
 cases r with
 |@tup _ ys _ hb rbs eb =>
  obtain⟨its,vi,p,_⟩:=I.tuple hb;have e:ys=ns.map V.int:=wM rbs;subst e;exact⟨its.toArray,p,by simpa using intsAre_of vi⟩
end
end
section
open PySem.W
structure qC where
 qual:Str
 params:Arguments
 body:jf
 scope:uh
 x:Str
 pos:Pos
noncomputable def uX(qt:Bool)(P:jt)(w:iy)(K:Fg)(mg:Str->Option bh)(base:jj)(k:Nat)(c:qC)(sp:gW):Prop :=
 ∀(A:iw)(outer:List Env)(s:cj)(H:Hp)(us:List bh)(vs:List V)(ds:List D)(d:D)(G:Gp)(R:fL)(E:XK)(f cc c':bx)(pm ctv u:bh)(vv:V),d9 qt k A->yD P w K mg base A outer s H->HR K H G->H f=aj (frO (kla_obj "<lambda>" c.qual c.params c.body c.scope [(c.x,cc)] pm c' ctv))->xM H c' c.qual ->
  s.heap.IsCell cc (aj u)->H cc=aq->RelV vv u->RD K H d vv->Vals vs us->bQ K H ds vs->sp (d::ds) G R (λ_ _=>False) ->
  yu (fj P w) A (.call (.ref f) ⟨us,[]⟩) (CR (gZ P w) outer P w H s (λv H'=>∃d' G2,RD K H' d' v/\HR K H' G2/\R d' G2) E) s
noncomputable def spL(n m:Nat)(te:cB):gW:=λds G R _=>ds.length=m/\te (rN n ds) G R
theorem aDO{qt:Bool}{w:iy}{K:Fg}{mg:Str->Option bh}{base:jj}{k:Nat}{c:qC}{ps:List Str}(S:ScX N ps c.x c.scope)(a5O:∀y∈c.scope.names,y.1=c.x->y.2≠.cell)
  (hb:∀(cl:List (Str×bx))(pm cdv ctv:bh)(us:List bh),us.length=ps.length->zj (kla_fn "<lambda>" c.qual c.params c.body c.scope cl pm cdv ctv) ⟨us,[]⟩=pure (ps.zip us))
  (hbody:∀(f c' cc:bx)(A:iw)(outer:List Env)(s:cj)(H:Hp),d9 qt k (A.deeper (nG c.qual c.scope s.heap.objs.size f (.ref c') [(c.x,cc)])) ->
   cF (cxX qt (gZ P w) P w K mg base N c.qual c.scope f (.ref c') c.x cc A outer s H (λ_ _ _=>False)) c.body te) :
  uX qt P w K mg base (k+1) c (spL N.length (ps.length+1) te):=by
 intro A outer s H us vs ds d G R E f cc c' pm ctv u vv hr e0 g hf rc hc hH rv rd rvs rds hsp;obtain⟨hl,hq⟩:=hsp;have hl':vs.length=ps.length:=by rw[←rds.length];simpa using hl
 refine auV S a5O hr e0 hf rc hc hH rv (hb _ _ _ _ us (by rw[←rvs.length];exact hl')) rvs hl' (λe s' z=>?_) λhr2=>?_
 .obtain⟨_,_,_,_,_,_,_,_,_,_,_,_,z⟩:=z;exact z
 .refine⟨_,hbody f c' cc A outer s H hr2,rN N.length (d::ds),G,_,?_,g,hq,λv H' d' G' _ r1 g1 q1=>⟨d',G',r1,g1,q1⟩⟩;unfold rN start;rw[show(d::ds).length=(vv::vs).length by simp[rds.length]];exact SR.entry (.cons rd rds)
section
variable{X:Cx}{pins:List (bx×Obj)}{σ:St}{H:Hp}{s:cj}{h':jj}
theorem Inv.apY{a:bx}{o:HO}(I:Inv X pins σ H s)(k:∀b u,b∉ch->s.heap.get? b=aj u->h'.get? b=aj u)(hc:∀b∈ch,mJ X pins H b)(ha:a∈ch)(new:dM X.prog X.w (upd H a o) h' a o):Inv X pins σ (upd H a o) {s with heap:=h',toks:=t' }:=by
 have nit:∀b u,H b=aj u->b∉ch:=λb u e z=>by rw[(hc b z).1]at e;cases e
 have fr:H a=aq:=(hc a ha).1;have sn:Same H (upd H a o):=bB fr;refine I.step (g':=s.gens) (d':=s.drawn) (ch:=ch) (λb hb=>?_) (λb o _ _ hn e _=>k b o hn e) (λb o _ _ hn e _=>⟨o.slots,k b o hn e⟩) (λb u hn e n=>by rw[aJ (show b≠a from λz=>hn (by rw[z];exact ha))];exact n) (λb o hn e=>⟨o,k b o hn e⟩) (λb xs e=>sn _ _ e) (λb o u e=>sn _ _ e) (λb ps e=>⟨#[],by rw[sn _ _ e];simp⟩) (λm hm=>?_) (λb u e=>?_) I.bare
 .obtain⟨_,f1,_,f3,f4,f5⟩:=hc b hb;exact⟨f3,f1,f4,f5⟩
 .obtain⟨o,es,ep,ho,r⟩:=hm;exact⟨o,es,ep,k _ o (λz=>(hc _ z).2.1 rfl) ho,r⟩
 .by_cases hb:b=a
  .subst hb;rw[aF]at e;cases e;exact new
  .rw[aJ hb]at e;refine(I.hok b u e).stay (λc v hcc q=>k c v ?_ q) (λ_ q=>sn _ _ q) λ_ _ q=>sn _ _ q;rcases hcc with z|z
   .rw[z];exact nit b u e
   .exact nit c _ z
theorem mJ.nfr(I:Inv X pins σ H s)(h:mJ X pins H b):b∉frs X.stack:=by
 rcases I.ok.stk with e|⟨e,hf⟩
 .rw[e];exact h.2.2.1
 .rw[e];unfold frs;rw[a1n,hf];intro z;rcases jm.mp z with z|z
  .exact h.2.1 z
  .exact h.2.2.1 z
theorem mJ.un(h:mJ X pins H b)(e:s.heap.get? b=aj o)(u:Un (frs X.stack) [] H H' s.heap s'.heap):mJ X pins H' b:=⟨u.free b o e h.1 (by simp),h.2⟩
def a2U(X:Cx)(c:qC)(f c' cc:bx)(H:Hp):Prop:=(∃ctv,H f=aj (frO (kla_obj "<lambda>" c.qual c.params c.body c.scope [(c.x,cc)] ((X.mg "__name__").getD .none) c' ctv)))/\xM H c' c.qual
theorem a2U.un{fs ex:List bx}(l:a2U X c f c' cc H)(u:Un fs ex H H' h1 h2):a2U X c f c' cc H':=by
 obtain⟨⟨ctv,e⟩,r⟩:=l;exact⟨⟨ctv,u.fK _ _ _ e⟩,r.keep λa o φ q=>u.fK _ _ _ q⟩
variable{qt:Bool}{k ix:Nat}{c:qC}
set_option tactic.hygienic true in
theorem apZ(LO:uX qt X.prog X.w X.K X.mg X.base k c sp)(hr:d9 qt k X.A.in1.in1)(I:Inv X pins σ H s)(g:HR X.K H G)(la:a2U X c f c' cc H)(hcc:X.env.cells.lookup c.x=aj cc)(hN:X.N[ix]?=aj c.x)(hx:X.env.scope.names.lookup c.x=aj .cell)(hv:σ[ix]?=aj (aj vc))(rdc:RD X.K H dx vc)(ru:RelV v u)(rd:RD X.K H d v)(q:sp [dx,d] G R (λ_ _=>False)) :
  cu (fj X.prog X.w) X.A.in1.in1 (call (.ref f) [u]) (λku s'=>∃kv H' kd G',Inv X pins σ H' s'/\Un (frs X.stack) [] H H' s.heap s'.heap/\RelV kv ku/\RD X.K H' kd kv/\HR X.K H' G'/\R kd G') (λ_ _=>False) s:=by
 obtain⟨⟨ctv,hf⟩,rc⟩:=la;obtain⟨m,hn,hl⟩:=I.loc;obtain⟨uc,ruc,lk⟩:=hl ix c.x vc hN hv (.inr (.inl hx))
 have hcell:s.heap.IsCell cc (aj uc):=by
  rcases lk with⟨kl,_⟩|⟨_,c0,e0,z⟩
  .have kl:X.env.scope.names.lookup c.x=aj .local:=kl;rw[hx]at kl;cases kl
  .rw[hcc]at e0;cases e0;exact z
 have e1:=I.env0;refine wpAny_call (codeAny_mono (LO X.A.in1.in1 X.stack s H [u] [v] [d] dx G R (λ_ _ _=>False) f cc c' _ ctv uc vc hr ⟨e1.frames,e1.mod,e1.bs,e1.bsz,e1.nF,e1.frf,e1.hok,e1.bare,e1.hnd⟩ g hf rc hcell (I.gM _ _ hcc) ruc rdc (.cons ru .nil) (.cons rd .nil) q) λr s' hq=>?_);cases r with
 |error e =>
  obtain⟨_,_,_,_,_,_,_,_,_,_,_,_,z⟩:=hq;exact z.elim
 |ok fl =>
  cases fl with
  |ret u =>
   obtain⟨v,H',os,bare,un,hok,r,d',G2,r2,g2,q2⟩:=hq;exact⟨v,H',d',G2,I.call' (ch:=[]) os un hok bare (λb z=>absurd z (by simp)),un,r,r2,g2,q2⟩
  |next=>exact False.elim hq
  |brk=>exact False.elim hq
  |cont=>exact False.elim hq
end
noncomputable def uY(sp:gW)(dx:D)(C:List D->Gp->Prop):List D->List D->Gp->Prop
 |[],ks,G=>C ks G
 |d::ds,ks,G=>sp [dx,d] G (λk G'=>uY sp dx C ds (ks++[k]) G') (λ_ _=>False)
theorem Vals.snoc(h:RelV v u):∀{vs:List V}{us:List bh},Vals vs us->Vals (vs++[v]) (us++[u])
 |_,_,.nil=>.cons h .nil
 |_,_,.cons a r=>.cons a (Vals.snoc h r)
theorem bQ.snoc{K:Fg}(h:RD K H d v):∀{ds:List D}{vs:List V},bQ K H ds vs->bQ K H (ds++[d]) (vs++[v])
 |_,_,.nil=>.cons h .nil
 |_,_,.cons a r=>.cons a (bQ.snoc h r)
structure KSt(X:Cx)(pins:List (bx×Obj))(σ:St)(H1:Hp)(c:qC)(f c' cc kS a:bx)(e1:Nat)(ks:List D)(C:Gp->Prop)(s:cj):Prop where
 ex:∃H G kvs kus e,Inv X pins σ H s/\HR X.K H G/\Ts H1 H/\a2U X c f c' cc H/\mJ X pins H kS/\mJ X pins H a/\bQ X.K H ks kvs/\Vals kvs kus/\s.heap.get? kS=aj (uw "list" kus.toArray e)/\s.heap.get? a=aj (uw "list" #[] e1)/\C G
theorem aaD{K:Fg}{ds:List D}{xs:List V}(r:bQ K H ds xs):∀{l:List Nat},(∀i∈l,i<ds.length)->bQ K H (l.map λi=>ds.getD i .non) (l.map λi=>xs.getD i .non)
 |[],_=>.nil
 |i::l,h=>by
  have hi:=h i (by simp);obtain⟨v,e1,rd⟩:=r.get (gw hi);have e2:xs.getD i .non=v:=by simp[a1b,e1]
  have e3:ds.getD i .non=ds[i]:=by simp[a1b,hi]
  refine .cons ?_ (aaD r λj hj=>h j (by simp[hj]));show RD K H (ds.getD i .non) (xs.getD i .non);rw[e2,e3];exact rd
section
end
end
section
open PySem.W
section
variable{X:Cx}{c:qC}{T cc:bx}
noncomputable def aOI(X:Cx)(T:bx)(c:qC)(cc:bx):TE:=λσ H Q=>∃ps,H T=aj (.xH ps)/\zH H c.qual c.pos ps /\
 ∀f c' ps' H',a2U X c f c' cc H'->H' T=aj (.xH ps')->zH H' c.qual c.pos ps'->H f=aq->(∀b u,b≠T->H b=aj u->H' b=aj u)->Q (.ref f) H'
theorem aJT(hC:CodeHd X.base cC T)(hbt:X.base.BuiltinsAt X.mg T)(hcode:X.env.code=.ref cC)(hcl:closureFor c.scope X.env=pure [(c.x,cc)])(hd:defaultsOf c.params X.env=([],[]))(hq:X.env.qual++"<lambda>"=c.qual) :
  PE X (.Lambda c.params c.body c.scope c.pos) (aOI X T c cc):=by
 intro pins s σ H Q I h _tk;obtain⟨ps,hT,st,h⟩:=h;refine kla_eval hd ?_;rw[hq];exact aBW I hT st hC hbt hcode hcl λf c' ctv ps' H' s' I' ff hf rc hT' st' kp=>⟨.ref f,H',I',rfl,h f c' ps' H' ⟨⟨ctv,hf⟩,rc⟩ hT' st' ff kp⟩
end
end
section
open PySem.W
theorem aj8{K:Fg}(h:RD K H d v):∀{ds:List D}{xs:List V}(j:Nat),bQ K H ds xs->bQ K H (ds.take j++d::ds.drop j) (xs.take j++v::xs.drop j)
 |[],_,j,.nil=>by simpa using bQ.cons h .nil
 |_::_,_,0,r=>by simpa using bQ.cons h r
 |_::_,_,j+1,.cons a r=>by simpa using bQ.cons a (aj8 h j r)
theorem aeF(h:RelV v u):∀{xs:List V}{us:List bh}(j:Nat),Vals xs us->Vals (xs.take j++v::xs.drop j) (us.take j++u::us.drop j)
 |[],_,j,.nil=>by simpa using Paired.cons h .nil
 |_::_,_,0,r=>by simpa using Paired.cons h r
 |_::_,_,j+1,.cons a r=>by simpa using Paired.cons a (aeF h j r)
section
variable{X:Cx}
noncomputable def qD:RM3:=λx xs G R=>match xs with
 |[.int i,z]=>a66 x G λp ds=>∃j:Nat,i=(j:Int)/\j<=ds.length/\ds.length<dg/\R .non (aL G p (.lst (ds.take j++z::ds.drop j)))
 |_=>False
set_option tactic.hygienic true in
theorem aeG:a5X X "list.insert" qD:=λpins s σ H x xs vx vs u us G R Q I rx rs ru rv g q k=>by
 have big:dg<2^62:=by decide
 unfold qD at q;split at q
 .rename_i i z;obtain⟨p,ds,ys,rfl,rfl,e,e1,r,j,ei,hj,hlt,q⟩:=a67 rx g q;cases rs with
  |cons r1 rr =>
  cases rr with
  |@cons _ vz _ _ rz rr =>
  cases rr;cases r1;obtain rfl:u=bh.ref p:=ru;cases rv with
  |cons rv1 rv =>
  cases rv with
  |@cons _ uz _ _ rv2 rv =>
  cases rv;obtain⟨t2,rfl⟩:=rv1;obtain⟨hz,its,n,rvs,ho⟩:=(show dM X.prog X.w H s.heap p (.lst ys)from I.hok p _ e1);have hl:ds.length=ys.length:=r.length;have hl2:ys.length=its.length:=rvs.length
  have hf:Builtin.List.listFitsIndex i=ak:=by
   rw[ei];unfold Builtin.List.listFitsIndex;simp;omega
  have hz':its.toArray.size<=dg:=by rw[dj,←hl2];exact hz
  have mt:=PySem.AutoListH.list_insert_list_int_val_1 p its.toArray n i t2 uz (by rw[hf];decide) hz';refine call_meets PySem.F.slot_list_insert ⟨_,ho,rfl⟩ PySem.F.entry_list_insert (PySem.F.args_list_insert_3 _ _ _) mt ⟨ho,?_⟩;have hs:=qw.update s.heap p (Obj.mapSeq λxs=>have k:=if i<0 then(i+((xs.size:Nat):Int)).toNat else min i.toNat xs.size;(xs.extract 0 k).push uz++xs.extract k)
  obtain⟨n',ho'⟩:∃n',(s.heap.update p (Obj.mapSeq λxs=>have k:=if i<0 then(i+((xs.size:Nat):Int)).toNat else min i.toNat xs.size;(xs.extract 0 k).push uz++xs.extract k)).get? p=aj (uw "list" (its.take j++uz::its.drop j).toArray n'):=by
   have:=get?_update_seq ho λxs=>have k:=if i<0 then(i+((xs.size:Nat):Int)).toNat else min i.toNat xs.size;(xs.extract 0 k).push uz++xs.extract k
   have ek:(if i<0 then(i+((its.toArray.size:Nat):Int)).toNat else min i.toNat its.toArray.size)=j:=by
    rw[ei,if_neg (by omega),dj];simp;omega
   have e:((its.toArray.extract 0 j).push uz++its.toArray.extract j)=(its.take j++uz::its.drop j).toArray:=by
    apply Array.toList_inj.mp;simp
    first
     |done
     |exact List.take_of_length_le (by simp)
   rw[ek,e]at this;exact⟨_,this⟩
  have le:(ys.take j++vz::ys.drop j).length<=dg:=by
   simp;omega
  have tt:Ts H (upd H p (.lst (ys.take j++vz::ys.drop j))):=.turn e1 (λ_ z=>nomatch z) (λ_ _ z=>nomatch z);exact⟨.non,_,I.write (t':=s.toks) (x:=p) (e:=p) (o:=.lst (ys.take j++vz::ys.drop j)) (by rw[e1];exact True.intro) (.inl rfl) (λb o hb z=>(hs.2 b hb).trans z) ⟨_,ho'⟩ ⟨le,_,n',aeF rv2 j rvs,ho'⟩,rfl,k _ _ _ _ tt .non (g.turn (u:=.lst _) tt ⟨_,aF,(aj8 rz j r).mono tt⟩) q⟩
 .exact q.elim
def alM(x y d:D)(F:cQ)(ρ:aN)(G:Gp):Prop:=match x with
 |.ref a=>∃(n:List Int)(kvs:List (List Int×D)),y=.tup (n.map D.int)/\G a=aj (.zJ kvs)/\((∃i,d=.int i)∨∃b,d=.bl b)/\kvs.length<1000000/\F.nx ρ (aL G a (.zJ (a1P kvs n d)))
 |_=>False
noncomputable def ac1(to ti tv:cB):bI:=λF ρ G=>tv ρ G λv G1=>to ρ G1 λx G2=>ti ρ G2 λy G3=>alM x y v F ρ G3
theorem aDP(hu:X.A.units+64<kh)(ho:cF X o to)(hi:cF X i ti)(hv:cF X value tv)(hs:a0z value (aj (.Subscript o i pos')) pos.line X.env=pure ao):PS3 X (.Assign [.Subscript o i pos'] value pos) (ac1 to ti tv):=by
 intro pins s σ H D I h _tk;obtain⟨ρ,G,F,sr,g,t,up⟩:=h;have big:1000000<dg:=by decide
 refine wpAny_Assign_Subscript (cL (hv pins s σ H (λv H1=>Ts H H1/\∃d G1,RD X.K H1 d v/\HR X.K H1 G1/\to ρ G1 λx G2=>ti ρ G2 λy G3=>alM x y d F ρ G3) I ⟨ρ,G,_,sr,g,t,λv H1 d G1 t1 r1 g1 q1=>⟨t1,d,G1,r1,g1,q1⟩⟩) λr s1 ⟨v,H1,I1,rv,t1,d,G1,rd,g1,q1⟩ =>
  cL (ho pins s1 σ H1 (λv H2=>Ts H1 H2/\∃x G2,RD X.K H2 x v/\HR X.K H2 G2/\ti ρ G2 λy G3=>alM x y d F ρ G3) I1 ⟨ρ,G1,_,sr.mono t1,g1,q1,λv H2 d G2 t2 r2 g2 q2=>⟨t2,d,G2,r2,g2,q2⟩⟩) λu s2 ⟨vx,H2,I2,rx,t2,x,G2,rdx,g2,q2⟩ =>
  cL (hi pins s2 σ H2 (λv H3=>Ts H2 H3/\∃y G3,RD X.K H3 y v/\HR X.K H3 G3/\alM x y d F ρ G3) I2 ⟨ρ,G2,_,sr.mono (t1.trans t2),g2,q2,λv H3 d G3 t3 r3 g3 q3=>⟨t3,d,G3,r3,g3,q3⟩⟩) λiv s3 ⟨vy,H3,I3,ry,t3,y,G3,rdy,g3,q3⟩=>?_) hs
 cases x with
 |ref a =>
  obtain⟨n,kvs,rfl,e1,pd,lk,q3⟩:=q3;cases rdx;obtain rfl:u=bh.ref a:=rx;obtain⟨b,rfl,sq⟩:=a4O rdy;obtain rfl:iv=bh.ref b:=ry;obtain⟨o3,xs,eo,mu,n1,n2,r0,hd,dd⟩:=abQ I3 g3 e1;have lx:xs.length=kvs.length:=(Paired.length r0).symm;refine wpAny_setItem_heap (vq (by omega)) (a6B I3 sq) dd (λh' dd' hs'=>?_) (by omega);have rp:=apE r0 sq (apD pd rd rv);generalize a1k xs (n.map Sum.inl) b r=ys at dd' rp;obtain⟨q0,es,ep,z1,z2,z3,z4,_,z5⟩:=dd';have tt:Ts H3 (upd H3 a (.ext (al2 X.prog X.w a ys))):=.turn eo (λxs z=>n1 xs (by rw[z])) (λo u z=>n2 o u (by rw[z]));refine⟨σ,_,zA (t':=_) (ob:=.ext (al2 X.prog X.w a ys)) I3 (by rw[eo];exact mu) hs' ⟨q0,z1⟩ ⟨⟨hd,q0,es,ep,z1,z2,z3,z4,z5⟩,⟨q0,z1⟩,λh1 h2 z kp=>?_⟩,up.nx ρ _ σ _ (sr.mono (((t1.trans t2).trans t3).trans tt)) (g3.turn (u:=.zJ (a1P kvs n d)) tt ⟨_,aF,.inr ⟨X.prog,X.w,ys,rfl,Paired.agD rp λ_ _ z=>⟨z.1,tt.sqT z.2.1,z.2.2⟩⟩⟩) q3⟩;obtain⟨y0,o1,es1,ep1,y1,y2⟩:=z;exact⟨y0,o1,es1,ep1,kp _ y1,y2⟩
 |_=>exact q3.elim
end
end
section
open PySem.W
variable{i:Nat}
section
variable{cmp:Nat->Nat->(Bool->cj->Prop)->cj->Prop}{kf:Nat->Int}
def qF(kf:Nat->Int)(p:Array Nat)(k:Nat):Prop:=∀i j,i<=j->j<k->ky kf p j<=ky kf p i
theorem aj9{k:Nat}(hj:j<=p.size):ky kf (kas_rev p i j) k=if i<=k/\k<j then ky kf p (i+j - 1 - k)else ky kf p k:=by
 unfold ky kas_rev;have e:=getElem?_mirror_all (xs:=p) (i:=i) hj k;split at e
 .rw[if_pos ‹_›,dO e]
 .rw[if_neg ‹_›,dO e]
theorem Pm.aq1(h:Pm n p):Pm n (kas_rev p i m):=⟨by rw[kas_rev_size];exact h.size,((mirror_perm p i m _).toList).trans h.perm⟩
def Alike(kf:Nat->Int)(p:Array Nat)(m q:Nat):Prop:=q+1<=m/\∀i,m - (q+1)<=i->i<m->ky kf p i=ky kf p (m - 1)
theorem Alike.rev{q:Nat}(hm:m<=p.size)(h:Alike kf p m q)(k:Nat):ky kf (kas_rev p (m - (q+1)) m) k=ky kf p k:=by
 obtain⟨h1,h2⟩:=h;rw[aj9 hm];split
 ·rw[h2 _ (by omega) (by omega),h2 k (by omega) (by omega)]
 .rfl
theorem qF.same(h:qF kf p m)(e:∀k,ky kf q k=ky kf p k):qF kf q m:=λi j a b=>by rw[e,e];exact h i j a b
theorem qF.up(hm:m<=p.size)(h:qF kf p m):Up kf (kas_rev p 0 m) m:=λi j a b=>by
 rw[abS hm (by omega),abS hm b];exact h _ _ (by omega) (by omega)
theorem qF.more{a:Nat}(u:qF kf p a)(h1:1<=a)(c:ky kf p a<=ky kf p (a - 1)):qF kf p (a+1):=λx y hxy hy=>by
 by_cases cy:y<a
 .exact u x y hxy cy
 .obtain rfl:y=a:=by omega
  by_cases cx:x=y
  .subst cx;exact a0n _
  .exact Int.le_trans c (u x (y - 1) (by omega) (by omega))
theorem a6I{n:Nat}(hc:Asks cmp I kf n):∀(f a q:Nat)(p:Array Nat)(s:cj),Pm n p->2<=a->a+f<=n->qF kf p a->Alike kf p a q->I s->(∀p' m q' s',Pm n p'->a<=m->m<=a+f->qF kf p' m->Alike kf p' m q'->I s'->Q (p',m,q') s')->(kas_desc f p a q).kasWp cmp Q s
 |0,a,q,p,s,P,h1,h2,u,al,i,h=>h p a q s P (dw _) (dw _) u al i
 |f+1,a,q,p,s,P,h1,h2,u,al,i,h=>by
  show cmp (p.getD a 0) (p.getD (a - 1) 0) _ s;refine hc _ _ _ s (P.lt (by omega)) (P.lt (by omega)) i λs' i'=>?_;have z:=P.size;have one:∀p:Array Nat,Alike kf p (a+1) 0:=λp=>⟨by omega,λi a1 a2=>by rw[show i=a+1 - 1 by omega]⟩;by_cases c:kf (p.getD a 0)<kf (p.getD (a - 1) 0)
  .rw[decide_eq_true c];dsimp only;rw[if_pos rfl];have u2:qF kf p (a+1):=u.more (by omega) (a2o c);have go:∀p',Pm n p'->(∀k,ky kf p' k=ky kf p k)->(kas_desc f p' (a+1) 0).kasWp cmp Q s':=λp' P' e=>a6I hc f (a+1) 0 p' s' P' (by omega) (by omega) (u2.same e) (one p') i' λp'' m q' s2 P'' l1 l2 d2 a2 i2=>h p'' m q' s2 P'' (by omega) (by omega) d2 a2 i2;by_cases cq:q>0
   .rw[if_pos cq];exact go _ P.aq1 (al.rev (by omega))
   .rw[if_neg cq];exact go p P λ_=>rfl
  .rw[decide_eq_false c];dsimp only;rw[if_neg (by decide)];show cmp (p.getD (a - 1) 0) (p.getD a 0) _ s';refine hc _ _ _ s' (P.lt (by omega)) (P.lt (by omega)) i' λs2 i2=>?_;by_cases d:kf (p.getD (a - 1) 0)<kf (p.getD a 0)
   .rw[decide_eq_true d];dsimp only;rw[if_pos rfl];exact h p a q s2 P (dw _) (by omega) u al i2
   .rw[decide_eq_false d];dsimp only;rw[if_neg (by decide)];have e:ky kf p a=ky kf p (a - 1):=by unfold ky;omega
    refine a6I hc f (a+1) (q+1) p s2 P (by omega) (by omega) (u.more (by omega) (Int.le_of_eq e)) ⟨by have:=al.1;omega,λi a1 a2=>?_⟩ i2 λp'' m q' s3 P'' l1 l2 d2 a2 i3=>h p'' m q' s3 P'' (by omega) (by omega) d2 a2 i3;rw[show a+1 - 1=a by omega];by_cases y:i=a
    .subst y;rfl
    .rw[e];exact al.2 i (by omega) (by omega)
theorem alN(hc:Asks cmp I kf n)(h2:2<=n)(P:Pm n p)(i:I s)(h:∀m q s',1<=m->m<=n->Pm n q->Up kf q m->I s'->Q (m,q) s'):(kas_count n p).kasWp cmp Q s:=by
 have part:∀(m:Nat)(p:Array Nat)(s:cj),1<=m->m<n->Pm n p->qF kf p (m+1)->I s->(kas_descPart m n p).kasWp cmp Q s:=by
  intro m p s m1 m2 P d i;unfold kas_descPart;rw[KasT.kasWp_bind];refine a6I hc (n - (m+1)) (m+1) 0 p s P (by omega) (by omega) d ⟨by omega,λi a1 a2=>by rw[show i=m+1 - 1 by omega]⟩ i λp' k q' s' P' l1 l2 d' al i'=>?_;have z:=P'.size
  have go:∀p2,Pm n p2->(∀k,ky kf p2 k=ky kf p' k)->(kas_tail3 k n p2).kasWp cmp Q s':=λp2 P2 e=>by
   unfold kas_tail3;rw[KasT.kasWp_bind];have z2:=P2.size;exact ah3 hc P2.aq1 (n - k) k s' (by omega) (by omega) ((d'.same e).up (by omega)) i' λx s3 q1 q2 u3 _ i3=>h x _ s3 (by omega) (by omega) P2.aq1 u3 i3
  dsimp only;by_cases cq:q'>0
  .rw[if_pos cq];exact go _ P'.aq1 (al.rev (by omega))
  .rw[if_neg cq];exact go p' P' λ_=>rfl
 unfold kas_count;rw[KasT.kasWp_bind];refine ah3 hc P (n - 1) 1 s (dw _) (by omega) (λx y hxy hy=>by have:x=y:=(by omega);subst this;exact a0n _) i λm s' l1 l2 u l3 i'=>?_;have z:=P.size;by_cases c:m=n
 .subst c;rw[if_pos (by simp)];exact h m p s' l1 (by omega) P u i'
 .rw[if_neg (by simpa using c)];have l3:=l3 (by omega);by_cases c1:m>1
  .rw[if_pos c1];show cmp (p.getD 0 0) (p.getD (m - 1) 0) _ s';refine hc _ _ _ s' (P.lt (by omega)) (P.lt (by omega)) i' λs2 i2=>?_;by_cases d:kf (p.getD 0 0)<kf (p.getD (m - 1) 0)
   .rw[decide_eq_true d];dsimp only;rw[if_pos rfl];exact h m p s2 l1 (by omega) P u i2
   .rw[decide_eq_false d];dsimp only;rw[if_neg (by decide)]
    have al:∀i,i<m->ky kf p i=ky kf p (m - 1):=λi hi=>by
     have a1:=u 0 i (vm _) hi;have a2:=u i (m - 1) (by omega) (by omega);have a3:ky kf p (m - 1)<=ky kf p 0:=by unfold ky;omega
     omega
    have e:∀k,ky kf (kas_rev p 0 m) k=ky kf p k:=λk=>by
     rw[aj9 (by omega)];split
     ·rw[al _ (by omega),al k (by omega)]
     .rfl
    refine part m _ s2 l1 (by omega) P.aq1 (qF.same (p:=p) (λx y a b=>?_) e) i2;by_cases cy:y<m
    .rw[al x (by omega),al y cy];exact a0n _
    .obtain rfl:y=m:=by omega
     by_cases cx:x=y
     .subst cx;exact a0n _
     .rw[al x (by omega)];exact a2o l3
  .rw[if_neg c1];obtain rfl:m=1:=by omega
   refine part 1 p s' l1 (by omega) P (λx y a b=>?_) i';by_cases cx:x=y
   .subst cx;exact a0n _
   .rw[show x=0 by omega,show y=1 by omega];exact a2o l3
theorem aq2(hc:Asks cmp I kf n)(h2:2<=n)(i:I s)(h:∀q s',Pm n q->Up kf q n->I s'->Q q s'):(kas_sort n).kasWp cmp Q s:=by
 unfold kas_sort;rw[KasT.kasWp_bind];refine alN hc h2 ⟨by simp,by simp⟩ i λm q s' l1 l2 P u i'=>?_;dsimp only;by_cases c:m<n
 .rw[if_pos c,show max m 1=m by omega];exact apF hc (n - m) m q s' P l1 (by omega) u i' h
 .rw[if_neg c];obtain rfl:m=n:=by omega
  exact h q s' P u i'
end
end
section
open PySem.W
section
variable{prog:jt}{w:iy}{A:iw}
theorem aq3{b:Bool}{fin:Bool}{xs ys:List bh}(i:Nat)(hx:a0d xs ns)(hy:a0d ys ms)(hf:fin=decide (xs.length<ys.length))(h:C (HT.lexLt ns ms) s):KatLex prog w A b fin C (xs.zip ys) i s:=by
 induction hx generalizing ys ms i with
 |nil =>
  refine kat_nil ?_;cases hy with
  |nil=>rw[hf];exact h
  |cons _ _ _=>rw[hf];simpa[HT.lexLt]using h
 |cons n t r ih =>
  cases hy with
  |nil=>exact kat_nil (by rw[hf];simpa[HT.lexLt]using h)
  |cons m u r' =>
   rw[HT.rM]at h;refine kat_cons (wpAny_eqBool_int (kat_go (λe=>kat_yes (ih (i+1) r' (by rw[hf];simp) ?_)) λe=>kat_no ?_))
   .have:n=m:=by simpa using e
    rw[if_pos this]at h;exact h
   .have:n≠m:=by simpa using e
    rw[if_neg this]at h;cases z:(b&&i==0)with
    |true=>exact oneLt_int h
    |false=>exact kat_one _ _ (HT.a5I _ _ _ _ _ _ _ _ _ _ h)
end
noncomputable def awI(r:List Int):D:=.tup (r.map D.int)
def a6J(h:jj)(rs:List (List Int))(vs:List bh):Prop:=vs.length=rs.length/\∀(i:Nat)(r:List Int),rs[i]?=aj r->∃(a:bx)(o:Obj)(n:Nat)(its:Array bh),vs[i]?=aj (bh.ref a)/\h.get? a=aj o/\o.cls=bh.type "tuple"/\o.data=.seq its n/\a0d its.toList r
theorem a6J.firsts:∀{rs:List (List Int)}{vs:List bh},a6J h rs vs->(∀r∈rs,r≠[])->∃fs:List bh,KatTups h vs fs/\fs.length=rs.length/\∀v∈fs,∃i t,v=.int i t
 |[],[],_,_=>⟨[],trivial,rfl,λv h=>by cases h⟩
 |[],_::_,H,_=>absurd H.1 (by simp)
 |_::_,[],H,_=>absurd H.1 (by simp)
 |r::rs,v::vs,H,hne=>by
  obtain⟨a,o,n,its,e1,e2,e3,e4,e5⟩:=H.2 0 r rfl;obtain⟨fs,k1,k2,k3⟩:=a6J.firsts (h:=h) (rs:=rs) (vs:=vs) ⟨by simpa using H.1,λi q hq=>by simpa using H.2 (i+1) q (by simpa using hq)⟩ λq hq=>hne q (jw _ hq);have e1':v=.ref a:=by simpa using e1
  subst e1';obtain⟨its⟩:=its;cases e5 with
  |nil=>exact absurd rfl (hne [] (qu ..))
  |cons m t rr =>
   refine⟨.int m t::fs,KatTups.cons e2 e3 e4 rfl k1,by simp[k2],λu hu=>?_⟩;rcases jm.mp hu with rfl|hu
   .exact⟨_,_,rfl⟩
   .exact k3 u hu
section
variable{prog:jt}{w:iy}{A:iw}
theorem aq4{vs:List bh}{kf:Nat->Int}(hkf:∀i j a b,rs[i]?=aj a->rs[j]?=aj b->HT.lexLt a b=decide (kf i<kf j))(hne:∀r∈rs,r≠[])(l2:2<=vs.length)(hp:a6J h' rs vs):aJG prog w A s kf vs h':=by
 obtain⟨fs,k1,k2,k3⟩:=hp.firsts hne;have len:=hp.1;refine⟨tuples' (bh.type "int"!=bh.type "tuple"),λQ hQ=>kat_kind (s:={s with heap:=h' }) k1 (by omega) (λv hv=>?_) (by simp) hQ,λi j C hi hj hC=>?_⟩
 .obtain⟨i,t,rfl⟩:=k3 v hv;exact .now
 .obtain⟨p,ep⟩:∃p,rs[i]?=aj p:=⟨_,gw (by omega)⟩;obtain⟨q,eq⟩:∃q,rs[j]?=aj q:=⟨_,gw (by omega)⟩;obtain⟨a,o,n,its,a1,a2,a3,a4,a5⟩:=hp.2 i p ep;obtain⟨b,o',n',its',b1,b2,b3,b4,b5⟩:=hp.2 j q eq;have ga:vs.getD i bh.none=.ref a:=by simp[a1b,a1]
  have gb:vs.getD j bh.none=.ref b:=by simp[a1b,b1]
  rw[←hkf i j p q ep eq]at hC;unfold kas_ask;rw[ga,gb];exact kat_lt (s:={s with heap:=h' }) a2 a4 b2 b4 (aq3 0 a5 b5 (by simp) hC)
end
section
variable{X:Cx}
theorem awJ{s:cj}(I:Inv X pins σ H s){rs:List (List Int)}(r:bQ X.K H (rs.map awI) xs)(rv:Vals xs us):a6J s.heap rs us:=by
 refine⟨by rw[←rv.length,←r.length,jc],λi row e=>?_⟩;obtain⟨v,e1,rd⟩:=r.get (i:=i) (d:=awI row) (by simp[e]);obtain⟨u,e2,ru⟩:=rv.get e1;unfold awI at rd;cases rd with
 |@tup b ys _ hb rbs eb =>
  cases ru;obtain⟨its,⟨o,q1,q2,n,q3⟩,ia⟩:=awH I (ns:=row) (.tup hb rbs eb);exact⟨b,o,n,its,e2,q1,q2,q3,ia⟩
end
def a1U(ds ks:List D)(G:Gp)(R:fL):Prop:=∃(rs:List (List Int))(kf:Nat->Int),ks=rs.map awI/\(∀r∈rs,r≠[])/\(∀i j a b,rs[i]?=aj a->rs[j]?=aj b->HT.lexLt a b=decide (kf i<kf j))/\∀q:Array Nat,Pm ds.length q->Up kf q ds.length->∀r,G r=aq->R (.ref r) (aL G r (.lst (q.toList.map λi=>ds.getD i .non)))
section
variable{X:Cx}{pins:List (bx×Obj)}{s:cj}{qt:Bool}{k ix:Nat}{c:qC}
set_option tactic.hygienic true in
theorem aeH(LO:uX qt X.prog X.w X.K X.mg X.base k c sp)(hr:d9 qt k X.A.in1.in1)(hu:X.A.units+64<kh)(I:Inv X pins σ H s)(g:HR X.K H G)(la:a2U X c f c' cc H)(hcc:X.env.cells.lookup c.x=aj cc)(hN:X.N[ix]?=aj c.x)(hx:X.env.scope.names.lookup c.x=aj .cell)(hv:σ[ix]?=aj (aj vc))(rdc:RD X.K H dx vc)
  {us:List bh}{ds:List D}(rd:bQ X.K H ds xs)(rv:Vals xs us)(ho:s.heap.get? a=aj (uw "list" us.toArray n))(fa:mJ X pins H a)(h64:ds.length<64){Q:VK}(hk:uY sp dx (λks G2=>a1U ds ks G2 R) ds [] G)
  (kk:∀v H' d G',Ts H H'->RD X.K H' d v->HR X.K H' G'->R d G'->Q v H')(hP:∀s',EP X pins σ Q (.ref a) s'->P (.done (.ret .none)) s') :
  cu (fj X.prog X.w) X.A.in1.in1 (ksk_tree a (.ref f) ao) P E s:=by
 have big:1000<dg:=by decide
 have lx:xs.length=ds.length:=rd.length.symm;have lu:us.length=ds.length:=by rw[←rv.length,lx]
 have la0:a<s.heap.objs.size:=gk ho;unfold ksk_tree;refine au (listItems_at ho rfl ?_);refine au (listUpdate_at ho rfl ?_ (by rw[dj];omega) (vm _));obtain⟨e1,ho1⟩:∃e1,(s.heap.update a (Obj.mapSeq λ_=>(#[]:Array bh))).get? a=aj (uw "list" #[] e1):=⟨_,get?_update_seq ho λ_=>#[]⟩;refine au (seqEpoch_at ho1 rfl ?_);refine au (wpAny_newTuple ?_ (by show us.length<=_;omega));refine au (wpAny_newList ?_ (vm _));refine qb ?_;have s0:=qw.update s.heap a (Obj.mapSeq λ_=>(#[]:Array bh));have hkS:((s.heap.update a (Obj.mapSeq λ_=>(#[]:Array bh))).push (uw "tuple" us.toArray 0)).objs.size=s.heap.objs.size+1:=by rw[size_push',Heap.size_update]
 have kp:∀b o,b∉[a]->s.heap.get? b=aj o->(((s.heap.update a (Obj.mapSeq λ_=>(#[]:Array bh))).push (uw "tuple" us.toArray 0)).push (uw "list" #[] 0)).get? b=aj o:=λb o hb e=>cg _ (cg _ ((s0.2 b (by simpa using hb)).trans e));have okS:(((s.heap.update a (Obj.mapSeq λ_=>(#[]:Array bh))).push (uw "tuple" us.toArray 0)).push (uw "list" #[] 0)).get? ((s.heap.update a (Obj.mapSeq λ_=>(#[]:Array bh))).push (uw "tuple" us.toArray 0)).objs.size=aj (uw "list" #[] 0):=gV _ rfl;have oa5:(((s.heap.update a (Obj.mapSeq λ_=>(#[]:Array bh))).push (uw "tuple" us.toArray 0)).push (uw "list" #[] 0)).get? a=aj (uw "list" #[] e1):=cg _ (cg _ ho1);generalize eh:((s.heap.update a (Obj.mapSeq λ_=>(#[]:Array bh))).push (uw "tuple" us.toArray 0)).push (uw "list" #[] 0)=h5 at *;generalize ek:((s.heap.update a (Obj.mapSeq λ_=>(#[]:Array bh))).push (uw "tuple" us.toArray 0)).objs.size=kS at *;have I5:Inv X pins σ H {s with heap:=h5,toks:=s.toks}:=I.zV (ch:=[a]) kp (λb hb=>by simp at hb;subst hb;exact fa);have fk:mJ X pins H kS:=I.uH (by rw[hkS];exact Nat.le_succ _) (I.hok.fresh (by rw[hkS];exact Nat.le_succ _));have hka:kS≠a:=by rw[hkS];exact yj (a1d la0)
 unfold ksk_rest;refine au (a0x ?_);rw[List.forIn_toArray];refine au (ksk_fold (λi s'=>∃ks,ks.length=i/\KSt X pins σ H c f c' cc kS a e1 ks (λG'=>uY sp dx (λks G2=>a1U ds ks G2 R) (ds.drop i) ks G') s') us 0 {s with heap:=h5} ⟨[],rfl,⟨H,G,[],[],0,I5,g,.refl H,la,fk,fa,.nil,.nil,okS,oa5,hk⟩⟩ ?step ?done)
 case step =>
  rintro j x s' hxj ⟨ks,hkl,⟨H',G',kvs,kus,e,J,g',ts,la',fk',fa',rk,vk,ok,oa,q⟩⟩;simp only[Nat.zero_add]at hkl q ⊢;obtain⟨d,x',ed,rdd,ru⟩:=Vals.adQ rd rv hxj;have hj:j<ds.length:=(gj.mp ed).1
  have edr:ds.drop j=d::ds.drop (j+1):=by
   rw[List.drop_eq_getElem_cons hj,(gj.mp ed).2]
  rw[edr]at q;have lk:kus.length=ks.length:=by rw[←vk.length,←rk.length]
  refine au (a2e (lg (apZ LO hr J g' la' hcc hN hx hv (rdc.mono ts) ru (rdd.mono ts) q) (λku s'' he=>?_) λ_ _ hF=>hF.elim));obtain⟨kv,H2,kd,G2,J2,un,rku,rkd,g2,q2⟩:=he
  try dsimp only
  have ok2:=un.keep kS _ ok fk'.1 (fk'.nfr J) (by simp);have oa2:=un.keep a _ oa fa'.1 (fa'.nfr J) (by simp);obtain⟨c2,hc2⟩:∃c2,(s''.heap.update kS (Obj.mapSeq (·.push ku))).get? kS=aj (uw "list" (kus.toArray.push ku) c2):=⟨_,get?_update_seq ok2 (·.push ku)⟩;have sb:=qw.update s''.heap kS (Obj.mapSeq (·.push ku));refine au (listUpdate_at ok2 rfl ?_ (by rw[dj];omega) (by rw[Array.size_push,dj];omega));have ts2:Ts H' H2:=⟨un.tups,un.fK⟩;have J3:=J2.zV (t':=s''.toks) (ch:=[kS]) (h':=s''.heap.update kS (Obj.mapSeq (·.push ku))) (λb u hb e=>(sb.2 b (by simpa using hb)).trans e) (λb hb=>by simp at hb;subst hb;exact fk'.un ok un);exact dh ⟨rfl,ks++[kd],by simp[hkl],⟨H2,G2,kvs++[kv],kus++[ku],c2,J3,g2,ts.trans ts2,la'.un un,fk'.un ok un,fa'.un oa un,bQ.snoc rkd (rk.mono ts2),Vals.snoc rku vk,by simpa using hc2,(sb.2 a hka.symm).trans oa2,q2⟩⟩
 case done =>
  rintro s' ⟨ks,hkl,⟨H',G',kvs,kus,e,J,g',ts,la',fk',fa',rk,vk,ok,oa,q⟩⟩;rw[List.drop_of_length_le (by omega)]at q;obtain⟨rs,kf,rfl,hne,hkf,hR⟩:=q;have lk:kus.length=us.length:=by rw[←vk.length,←rk.length];omega
  refine au (listItems_at ok rfl ?_);unfold ksk_end;simp only[qe,if_false]
  have fin:∀(st:SortSt)(q:Array Nat),Pm us.length q->Up kf q us.length->(arrOf st).map (·.2)=(q.toList.map λi=>us.getD i bh.none).toArray->failedOf st=aq->cu (fj X.prog X.w) X.A.in1.in1 (ksk_tail a ao e1 (.ref kS) st) P E s':=by
   intro st q PM U har hf;unfold ksk_tail;simp only[qe,if_false];refine au (listUpdate_at ok rfl ?_ (by rw[dj];omega) (vm _));refine au (zp ?_);have s1:=qw.update s'.heap kS (Obj.mapSeq λ_=>(#[]:Array bh));have na1:(s'.heap.update kS (Obj.mapSeq λ_=>(#[]:Array bh))).get? a=aj (uw "list" #[] e1):=(s1.2 a hka.symm).trans oa;refine au (seqEpoch_at na1 rfl ?_);rw[har];refine au (listUpdate_at na1 rfl ?_ (vm _) (by rw[dj,jc,a0a,PM.size];omega));rw[hf];simp only[bne_self_eq_false,qe,if_false];have s2:=qw.update (s'.heap.update kS (Obj.mapSeq λ_=>(#[]:Array bh))) a (Obj.mapSeq λ_=>(q.toList.map λi=>us.getD i bh.none).toArray);obtain⟨c3,hc3⟩:∃c3,((s'.heap.update kS (Obj.mapSeq λ_=>(#[]:Array bh))).update a (Obj.mapSeq λ_=>(q.toList.map λi=>us.getD i bh.none).toArray)).get? a=aj (uw "list" (q.toList.map λi=>us.getD i bh.none).toArray c3):=⟨_,get?_update_seq na1 λ_=>(q.toList.map λi=>us.getD i bh.none).toArray⟩;have hin:∀i∈q.toList,i<ds.length:=λi hi=>by rw[←lu];exact xg.mp (PM.perm.mem_iff.mp hi)
   have fr:H' a=aq:=fa'.1;have sn:Same H' (upd H' a (.lst (q.toList.map λi=>xs.getD i .non))):=bB fr;refine dh (hP _ ?_)
   have Jf:=J.apY (t':=s'.toks) (h':=(s'.heap.update kS (Obj.mapSeq λ_=>(#[]:Array bh))).update a (Obj.mapSeq λ_=>(q.toList.map λi=>us.getD i bh.none).toArray)) (ch:=[kS,a]) (a:=a) (o:=.lst (q.toList.map λi=>xs.getD i .non)) (λb u hb e=>by
    simp only[jm,qj,or_false,not_or]at hb;exact(s2.2 b hb.2).trans ((s1.2 b hb.1).trans e)) (λb hb=>by
    simp only[jm,qj,or_false]at hb;rcases hb with rfl|rfl
    .exact fk'
    .exact fa') (by simp) ⟨by rw[jc,a0a,PM.size];omega,_,c3,aa6 rv λi hi=>by rw[lx];exact hin i hi,hc3⟩
   rw[lu]at PM U;exact⟨.ref a,_,Jf,rfl,kk _ _ (.ref a) _ (ts.trans (.same sn)) (.ref a) (g'.put (u:=.lst _) fr ⟨_,aF,(aaD rd hin).mono (ts.trans (.same sn))⟩) (hR q PM U a (gP g' fr (oM Jf)))⟩
  by_cases c2:us.toArray.size<2
  .rw[if_pos c2,if_pos c2];refine au (dh ?_);rw[StateT.run_pure];refine au (dh ?_);dsimp only;have c3:us.length<2:=by simpa using c2
   refine fin _ (jy us.length).toArray ⟨by rw[dj,List.length_range],.refl _⟩ (λi j hij hj=>by have:i=j:=(by omega);subst this;exact a0n _) ?_ rfl;show(kus.toArray.zip us.toArray).map (·.2)=_
   have e1:(kus.toArray.zip us.toArray).map (·.2)=us.toArray:=by
    apply Array.ext
    .simp;omega
    .intro i h1 h2;simp
   rw[e1]
   have e2:(jy us.length).toArray.toList.map (λi=>us.getD i bh.none)=us:=by
    apply List.ext_getElem (by simp);intro i h1 h2;simp[h2]
   rw[e2]
  .rw[if_neg c2,if_neg c2];have l2:2<=us.length:=by rw[dj]at c2;omega
   obtain⟨κ,k1,k2⟩:=aq4 (prog:=X.prog) (w:=X.w) (A:=X.A.in1.in1) (s:=s') hkf hne (by omega) (awJ J rk vk);refine au (lg (k1 (λκ' s''=>κ'=κ/\s''=s') ⟨rfl,rfl⟩) ?_ λ_ _ z=>z.elim);rintro κ' s'' ⟨q1,q2⟩;subst q1;subst q2
   refine au (lg (kat_run (vs:=us) (Q:=λst' s3=>s3=s''/\failedOf st'=aq/\∃q,Pm us.length q/\Up kf q us.length/\arrOf st'=q.map (kas_item (kus.toArray.zip us.toArray)))
    (G:=λq s3=>s3=s''/\Pm us.length q/\Up kf q us.length) lk l2 (by omega) (λp st' s3 a1 a2 a3 a4=>⟨a4.1,a3,p,a4.2.1,a4.2.2,a2⟩)
    (aq2 (I:=λs3=>s3=s'') (λi j C s3 hi hj es hC=>by subst es;exact k2 i j C (by omega) (by omega) (hC _ rfl)) l2 rfl λq s3 P u es=>⟨es,P,u⟩)) ?_ λ_ _ e=>e)
   rintro⟨⟨⟩,st'⟩ s3 ⟨es,hf,q,PM,u,har⟩;subst es;dsimp only;exact fin st' q PM u (kat_snds lk har) hf
end
section
variable{X:Cx}{qt:Bool}{k ix:Nat}{c:qC}{sp:gW}{T:bx}{te:cB}{p pos kp:Pos}
noncomputable def ac2(te:cB)(T:bx)(c:qC)(ix:Nat)(sp:gW):cB:=λρ G R=>te ρ G λx G1=>∃l ds dx,x=.ref l/\aM G1 l=aj ds/\ds.length<64/\at3 ρ ix=aj dx/\G1 T=aj (.tab c.qual c.pos)/\uY sp dx (λks G2=>a1U ds ks G2 R) ds [] G1
set_option tactic.hygienic true in
theorem awL(LO:uX qt X.prog X.w X.K X.mg X.base k c sp)(hr:d9 qt k X.A.in1.in1)(hu:X.A.units+64<kh)(hg:Gl X "sorted")(hm:X.mg "sorted"=aq)(hN:X.N[ix]?=aj c.x)(hx:X.env.scope.names.lookup c.x=aj .cell)
  (hcf:c.scope.names.filter (λp=>p.2==.free)=[(c.x,.free)])(hC:CodeHd X.base cC T)(hbt:X.base.BuiltinsAt X.mg T)(hcode:X.env.code=.ref cC)(hd:defaultsOf c.params X.env=([],[]))(hq:X.env.qual++"<lambda>"=c.qual)(he:cF X e te)
  (hs:je [e] X.env=[(ao,eval e X.env)]):cF X (.Call (.Name "sorted" p) [e] [⟨aj "key",.Lambda c.params c.body c.scope c.pos,kp⟩] pos) (ac2 te T c ix sp):=by
 intro pins s σ H Q I h _tk;obtain⟨ρ,G,R,sr,g,q,kk⟩:=h;have big:1000<dg:=by decide
 obtain⟨cc,hcc⟩:=I.ok.has c.x (.inl hx);refine yp (rJ I hg hm (u:=.builtin "sorted") (by decide+kernel) ?_ (by decide) (by decide))
 have hA:=(dH he tM (by rw[hs];rfl)) pos pins s σ H (λvs H1=>Ts H H1/\∃ds G1,bQ X.K H1 ds vs/\HR X.K H1 G1/\(match ds with
  |[y]=>∃l ds dx,y=.ref l/\aM G1 l=aj ds/\ds.length<64/\at3 ρ ix=aj dx/\G1 T=aj (.tab c.qual c.pos)/\uY sp dx (λks G2=>a1U ds ks G2 R) ds [] G1
  |_=>False)) I ⟨ρ,G,(λds G1=>match ds with
  |[y]=>∃l ds dx,y=.ref l/\aM G1 l=aj ds/\ds.length<64/\at3 ρ ix=aj dx/\G1 T=aj (.tab c.qual c.pos)/\uY sp dx (λks G2=>a1U ds ks G2 R) ds [] G1
  |_=>False),sr,g,q,λvs H1 ds G1 t1 r1 g1 q1=>⟨t1,ds,G1,r1,g1,q1⟩⟩
 refine callWith_kw (cL hA λus s1 ⟨vs,H1,I1,rr,t1,ds,G1,r1,g1,q1⟩=>?_) (by rw[hs];rfl) (by rw[hs];rfl) rfl rfl;split at q1
 .rename_i y;obtain⟨l,ds,dx,rfl,e1,h64,hix,hGT,hk⟩:=q1;cases r1 with
  |@cons _ vy _ _ ry rn =>
   cases rn;cases rr with
   |@cons _ uy _ _ ru rn =>
    cases rn;cases ry;cases ru;obtain⟨ps1,hT1,st1⟩:=g1 T _ hGT;refine cL (aiE (nm:=some "key") (kpos:=kp) (aJT (cc:=cc) hC hbt hcode (a5R hcf hcc) hd hq) anL pos pins s1 σ H1 (λzs H2=>∃f c' ps',zs=[.ref f]/\a2U X c f c' cc H2/\H2 T=aj (.xH ps')/\zH H2 c.qual c.pos ps'/\(∀b u,b≠T->H1 b=aj u->H2 b=aj u)) I1 ⟨ps1,hT1,st1,λf c' ps' H2 la hT2 st2 _ kp2=>⟨f,c',ps',rfl,la,hT2,st2,kp2⟩⟩) λkvs s2 ⟨zs,H2,I2,rz,f,c',ps',ez,la,hT2,st2,kp2⟩=>?_;subst ez;cases rz with
    |@cons _ kv _ _ rk rn =>
     cases rn;cases rk;show cu _ _ (call (.builtin "sorted") [.ref l] [(Str.ofString "key",.ref f)]) _ _ s2;have ts:Ts H1 H2:=⟨λa xs q0=>kp2 a _ (a9F q0 hT1 (λz=>by cases z)) q0,λa o u q0=>kp2 a _ (a9F q0 hT1 (λz=>by cases z)) q0⟩
     have g2:HR X.K H2 G1:=λa o q0=>by
      by_cases y:a=T
      .rw[y,hGT]at q0;cases q0;rw[y];exact⟨ps',hT2,st2⟩
      .exact(g1 a o q0).keep ts λu q=>kp2 a u y q
     obtain⟨xs,hsq,rd⟩:=bM g2 e1;obtain⟨its,rv,pl,_⟩:=I2.list hsq;have li:its.length=ds.length:=by rw[←rv.length,←rd.length]
     obtain⟨vc,hv,rdc⟩:=(sr.mono (t1.trans ts)).get hix;refine call_function_entry_kw kind_sorted plain_sorted entry_sorted (ksk_s1 _ _) ?_;unfold Builtin.«sorted»;refine au (m:=checkCount "sorted" 1 1 _) (dh ?_);refine au (collect_list pl.isList ?_ (by omega));refine au (wpAny_newList ?_ (by omega));have sz:((s2.heap.push (uw "list" #[] 0)).update s2.heap.objs.size (Obj.mapSeq (·++its.toArray))).objs.size=s2.heap.objs.size+1:=by rw[Heap.size_update,size_push']
     have oL:(((s2.heap.push (uw "list" #[] 0)).update s2.heap.objs.size (Obj.mapSeq (·++its.toArray))).push (uw "list" its.toArray 0)).get? (s2.heap.objs.size+1)=aj (uw "list" its.toArray 0):=by rw[←sz];exact gV _ rfl
     have kp:∀b o,s2.heap.get? b=aj o->(((s2.heap.push (uw "list" #[] 0)).update s2.heap.objs.size (Obj.mapSeq (·++its.toArray))).push (uw "list" its.toArray 0)).get? b=aj o:=λb o e=>cg _ (((qw.update (s2.heap.push (uw "list" #[] 0)) s2.heap.objs.size (Obj.mapSeq (·++its.toArray))).2 b (jd (gk e))).trans (cg _ e));show cu _ _ _ _ _ {s2 with heap:=((s2.heap.push (uw "list" #[] 0)).update s2.heap.objs.size (Obj.mapSeq (·++its.toArray))).push (uw "list" its.toArray 0)};rw[sz];refine au (qb (wpAny_call_entry_kw slot_list_sort ⟨_,oL,rfl⟩ entry_list_sort ?body (ksk_l1 _ _)))
     case body =>
      show cu (fj X.prog X.w) X.A.in1.in1 (Builtin.«list.sort» ⟨[.ref (s2.heap.objs.size+1)],[(Str.ofString "key",.ref f)]⟩) _ _ _;rw[ksk_t1];exact aeH LO hr hu (I2.kept (t':=s2.toks) kp) g2 la hcc hN hx hv rdc rd rv oL (I2.uH (Nat.le_succ _) (I2.hok.fresh (Nat.le_succ _))) h64 hk (λv H' d G' t=>kk v H' d G' ((t1.trans ts).trans t)) λs' ep=>⟨_,rfl,dh ⟨_,rfl,ep⟩⟩
 .exact q1.elim
end
end
end L2
namespace L4
open PySem PySem.Spec PyProof.Rows L2
inductive BF where
 |len|abs|isi|min|max|sum|aeI|aaE|awM
 deriving DecidableEq
inductive MK where
 |append|clear|insert
 deriving DecidableEq
inductive GT where
 |con (d:D)|cls (a:bx)|fn (sp:gW) (n:Nat) (qt:Bool)|bf (b:BF)|bt (n:String)|kl (C:bx) (sp:gW) (dd:List D)|me (C:bx) (m:Str) (sp:gW) (dd:List D)|fl (C:bx) (f:Str)|clo (c:ao2) (sp:gW)|fnP (sp:gW) (n:Nat)
structure SI where
 N:List Str
 fl:List Bool
 lc:List Bool
 ce:List Bool
 gl:List (Str×GT)
 gv:List Bool
 calm:Bool
 need:Bool
mutual
inductive CE where
 |fre (i:Nat)|var (i:Nat)|con (d:D)|glo (k:Nat)|neg (a:CE)|aq6 (a:CE)|bin (o:Operator) (a b:CE)|cmp (o:yc) (a b:CE)|chain (o o':yc) (a b c:CE)
 |ah6 (es:CEs)|ifx (c:CT) (a b:CE)|tup (es:CEs)|lst (es:CEs)|dct|ix (a b:CE)|sl (a:CE) (lo hi:CO)|call (k:Nat) (es:CEs)|meth (m:MK) (o:CE) (es:CEs)
 |comp (fl gv:List Bool) (ci:CI) (cc:CC) (e:CE)|aaG (n:Nat) (fl gv:List Bool) (ci:CI) (cc:CC) (e:CE)|eqd (neg:Bool) (a b:CE)|maxD (k:Nat) (e d:CE)|dix (a b:CE)|din (neg:Bool) (a b:CE)|dgt (o e f:CE)|awN|awO (t:Bool) (a b:CE)
inductive CEs where
 |nil|cons (e:CE) (r:CEs)
inductive CT where
 |cmp (o:yc) (a b:CE)|chain (o o':yc) (a b c:CE)|not (t:CT)|and (ts:CTs)|or (ts:CTs)|val (e:CE)|eqd (neg:Bool) (a b:CE)|din (neg:Bool) (a b:CE)
inductive CTs where
 |nil|cons (t:CT) (r:CTs)
inductive CO where
 |none|some (e:CE)
inductive CI where
 |any (e:CE)|ac3 (e:CE)|zip (a b:CE)|ah7 (a b c:CE)|items (e:CE)|enu (e:CE)
inductive CC where
 |none|some (t:CT)
end
noncomputable abbrev SI.cmp(S:SI)(xs:List Str)(fl gv:List Bool):SI:=⟨xs++S.N,xs.map (λ_=>ak)++fl,xs.map (λ_=>ak)++S.N.map (λ_=>ao),xs.map (λ_=>ao)++fl,S.gl,gv,S.calm,ao⟩
noncomputable def aq8:cB:=λ_ _ _=>False
noncomputable def azW:xP:=λ_ _ _=>False
noncomputable def NoX:aN->aX:=λ_ _ _=>False
noncomputable def azX:Operator->R3
 |.Add=>dD
 |.Sub=>tO
 |.Mult=>pQ
 |.FloorDiv=>gQ
 |.Mod=>dR
 |.Pow=>azH
 |_=>λ_ _ _ _=>False
noncomputable def a6K:yc->R3
 |.Eq=>uE
 |.NotEq=>a3O
 |.Lt=>adI
 |.LtE=>adJ
 |.Gt=>av0
 |.GtE=>aI7
 |.Is=>aC3
 |.IsNot=>ao8
 |.In=>aIQ
 |.NotIn=>aiT
noncomputable def aq9:Bool->R3
 |true=>zR
 |false=>aj2
noncomputable def aJZ(K:Fg):BF->List D->Gp->fL->Prop
 |.len=>m7
 |.abs=>a9X
 |.isi=>aD K
 |.min=>a1O
 |.max=>a65
 |.sum=>adX
 |.aeI=>zY
 |.aaE=>wL
 |.awM=>ac0
noncomputable def aDQ(n:String):List D->Gp->fL->Prop:=if n="int" then aiS else if n="list" then a5V else if n="str" then azS else if n="tuple" then rY else λ_ _ _=>False
noncomputable def mkT:MK->String
 |.append=>"list"
 |.clear=>"list"
 |.insert=>"list"
noncomputable def mkR:MK->RM3
 |.append=>lG
 |.clear=>zT
 |.insert=>qD
noncomputable def mkN:MK->Str
 |.append=>"append"
 |.clear=>"clear"
 |.insert=>"insert"
noncomputable def aDR(T:List (Str×GT))(k:Nat):cB:=match T[k]? with
 |some (_,.con d)=>aO d
 |some (_,.cls a)=>aO (.ref a)
 |some (_,.bt n)=>aO (.ty n)
 |_=>aq8
noncomputable def aDS(T:List (Str×GT))(K:Fg)(ex:aN->aX)(k:Nat)(t:nH):cB:=match T[k]? with
 |some (_,.fn sp _ _)=>aU sp ex t
 |some (_,.cls a)=>aoZ a t
 |some (_,.bf b)=>cU (aJZ K b) t
 |some (_,.bt n)=>cU (aDQ n) t
 |some (_,.kl C sp dd)=>ah2 C sp dd ex t
 |_=>aq8
noncomputable def aDT:Bool->R3
 |true=>apB
 |false=>ae2
mutual
noncomputable def mE(T:List (Str×GT))(K:Fg)(ex:aN->aX):CE->cB
 |.fre i=>aB i
 |.var i=>aB i
 |.con d=>aO d
 |.glo k=>aDR T k
 |.neg a=>a9V (mE T K ex a)
 |.aq6 a=>a5Q (mE T K ex a)
 |.bin o a b=>aG (azX o) (mE T K ex a) (mE T K ex b)
 |.cmp o a b=>aG (a6K o) (mE T K ex a) (mE T K ex b)
 |.chain o o' a b c=>oN (a6K o) (a6K o') (mE T K ex a) (mE T K ex b) (mE T K ex c)
 |.ah6 es=>aDU T K ex es
 |.ifx c a b=>ao6 (mT T K ex c) (mE T K ex a) (mE T K ex b)
 |.tup es=>bV (mA T K ex es)
 |.lst es=>gY (mA T K ex es)
 |.dct=>abI
 |.ix a b=>aG bR (mE T K ex a) (mE T K ex b)
 |.sl a lo hi=>wJ (mE T K ex a) (mO T K ex lo) (mO T K ex hi)
 |.call k es=>aDS T K ex k (mA T K ex es)
 |.meth m o .nil=>aoJ (mkT m) (mkR m) (mE T K ex o)
 |.meth m o (.cons e r)=>tM3 (mkT m) (mkR m) (mE T K ex o) (aA (mE T K ex e) (mA T K ex r))
 |.comp _ _ ci cc e=>uU (mI T K ex ci) (mC T K cc) (mE T K NoX e)
 |.aaG n _ _ ci cc e=>a4K n (mI T K ex ci) (mC T K cc) (mE T K NoX e)
 |.eqd neg a b=>aG (aq9 neg) (mE T K ex a) (mE T K ex b)
 |.maxD _ e d=>aj4 (mE T K ex e) (mE T K ex d)
 |.dix a b=>aG pH (mE T K ex a) (mE T K ex b)
 |.din neg a b=>aG (aDT neg) (mE T K ex a) (mE T K ex b)
 |.dgt o e f=>a4P (mE T K ex o) (mE T K ex e) (mE T K ex f)
 |.awN=>a4J
 |.awO t a b=>abY t (mE T K ex a) (mE T K ex b)
noncomputable def mA(T:List (Str×GT))(K:Fg)(ex:aN->aX):CEs->nH
 |.nil=>aC
 |.cons e r=>aA (mE T K ex e) (mA T K ex r)
noncomputable def aDU(T:List (Str×GT))(K:Fg)(ex:aN->aX):CEs->cB
 |.nil=>aq8
 |.cons e .nil=>mE T K ex e
 |.cons e (.cons e' r)=>nJ (mE T K ex e) (aDU T K ex (.cons e' r))
noncomputable def mOr(T:List (Str×GT))(K:Fg)(ex:aN->aX):CEs->cB
 |.nil=>aq8
 |.cons e .nil=>mE T K ex e
 |.cons e (.cons e' r)=>azE (mE T K ex e) (mOr T K ex (.cons e' r))
noncomputable def mT(T:List (Str×GT))(K:Fg)(ex:aN->aX):CT->xP
 |.cmp o a b=>aQ (aG (a6K o) (mE T K ex a) (mE T K ex b))
 |.chain o o' a b c=>aQ (oN (a6K o) (a6K o') (mE T K ex a) (mE T K ex b) (mE T K ex c))
 |.not t=>j6 (mT T K ex t)
 |.and ts=>aqA T K ex ts
 |.or ts=>aDV T K ex ts
 |.val e=>aQ (mE T K ex e)
 |.eqd neg a b=>aQ (aG (aq9 neg) (mE T K ex a) (mE T K ex b))
 |.din neg a b=>aQ (aG (aDT neg) (mE T K ex a) (mE T K ex b))
noncomputable def aqA(T:List (Str×GT))(K:Fg)(ex:aN->aX):CTs->xP
 |.nil=>azW
 |.cons e .nil=>mT T K ex e
 |.cons e (.cons e' r)=>adH (mT T K ex e) (aqA T K ex (.cons e' r))
noncomputable def aDV(T:List (Str×GT))(K:Fg)(ex:aN->aX):CTs->xP
 |.nil=>azW
 |.cons e .nil=>mT T K ex e
 |.cons e (.cons e' r)=>uD (mT T K ex e) (aDV T K ex (.cons e' r))
noncomputable def mO(T:List (Str×GT))(K:Fg)(ex:aN->aX):CO->TO3
 |.none=>pR
 |.some e=>a1I (mE T K ex e)
noncomputable def mI(T:List (Str×GT))(K:Fg)(ex:aN->aX):CI->TI3
 |.any e=>uR (mE T K ex e)
 |.ac3 e=>uT (aA (mE T K ex e) aC)
 |.zip a b=>a2T (aA (mE T K ex a) (aA (mE T K ex b) aC))
 |.ah7 a b c=>a1R (aA (mE T K ex a) (aA (mE T K ex b) (aA (mE T K ex c) aC)))
 |.items e=>mL ak (mE T K ex e)
 |.enu e=>a1T (aA (mE T K ex e) aC)
noncomputable def mC(T:List (Str×GT))(K:Fg):CC->xP
 |.none=>lV
 |.some t=>mT T K NoX t
end
noncomputable def isStar:jf->Bool
 |.Starred ..=>ak
 |_=>ao
noncomputable def isSlice:jf->Bool
 |.Slice ..=>ak
 |_=>ao
noncomputable def eZ:jf->Bool
 |.Call (.Name id _) [] [] _=>id !=("super":Str)
 |_=>ak
noncomputable def isSet:jf->Bool
 |.Set ..=>ak
 |_=>ao
noncomputable def aDW:BF->String
 |.len=>"len"
 |.abs=>"abs"
 |.isi=>"isinstance"
 |.min=>"min"
 |.max=>"max"
 |.sum=>"sum"
 |.aeI=>"list"
 |.aaE=>"dict"
 |.awM=>"min"
noncomputable def aqB:BF->bh
 |.aeI=>.type "list"
 |.aaE=>.type "dict"
 |b=>.builtin (aDW b)
noncomputable def ah8:BF->Bool
 |.len=>ak
 |.abs=>ak
 |.isi=>ak
 |_=>ao
noncomputable def oO(S:SI):Bool:=(jy S.gl.length).any λk=>S.gv[k]?==aj ak&&match S.gl[k]? with
 |some (y,.bt n)=>y==("range":Str)&&n=="range"
 |_=>ao
noncomputable def aeK(S:SI):Bool:=(jy S.gl.length).any λk=>S.gv[k]?==aj ak&&match S.gl[k]? with
 |some (y,.bt n)=>y==("zip":Str)&&n=="zip"
 |_=>ao
noncomputable def a6L(S:SI):Bool:=(jy S.gl.length).any λk=>S.gv[k]?==aj ak&&match S.gl[k]? with
 |some (y,.bt n)=>y==("enumerate":Str)&&n=="enumerate"
 |_=>ao
noncomputable def ajA(S:SI)(k:Nat)(x:Str):Bool:=match S.gl[k]? with
 |some (y,.bf b)=>y==x&&aqB b==.builtin "max"
 |_=>ao
noncomputable def aDX(S:SI)(y:Str):Bool:=(jy S.N.length).any λi=>S.N[i]?==aj y&&S.ce[i]?==aj ak
noncomputable def ac4:List Str->Bool
 |[]=>ak
 |x::r=>!r.contains x&&ac4 r
noncomputable def a2V:List jf->Option (List Str)
 |[]=>aj []
 |.Name x _::r=>(a2V r).map (x:: ·)
 |_=>aq
noncomputable def xR(S:SI)(xs:List Str)(scope:uh)(fl gv:List Bool):Bool :=
 scope.kind==.function&&scope.names.all (λy=>y.2 !=.cell&&(y.2 !=.local||scope.names.lookup y.1==aj .local)&&(y.2 !=.free||aDX S y.1)) &&
 xs.all (λx=>scope.names.lookup x==aj .local&&!S.N.contains x&&x !=("__debug__":Str)&&x !=("__classdict__":Str))&&ac4 xs &&
 S.N.all (λy=>scope.names.lookup y !=aj .local) &&
 (jy S.N.length).all (λi=>fl[i]? !=aj ak||(S.fl[i]?==aj ak&&match S.N[i]? with
  |some y=>scope.names.lookup y==aj .free
  |none=>ao)) &&
 (jy S.gl.length).all (λk=>gv[k]? !=aj ak||match S.gl[k]? with
  |some (y,_)=>scope.names.lookup y==aj .globalImplicit
  |none=>ao)
noncomputable def azY:D->Const->Bool
 |.int i,.int j=>i==j
 |.str s,.str t=>s==t
 |.bl b,.bool c=>b==c
 |.non,.none=>ak
 |_,_=>ao
noncomputable def plainT:jf->Bool
 |.UnaryOp .Not _ _=>ao
 |.BoolOp ..=>ao
 |.IfExp ..=>ao
 |.Compare ..=>ao
 |_=>ak
noncomputable def aqC(S:SI)(k:Nat)(x:Str):Bool:=match S.gl[k]? with
 |some (y,.con _)=>y==x
 |some (y,.cls _)=>y==x
 |some (y,.bt _)=>y==x
 |_=>ao
noncomputable def ajB(S:SI)(k:Nat)(x:Str)(e:Bool):Bool:=match S.gl[k]? with
 |some (y,.fn _ _ qt)=>y==x&&(qt||S.calm)
 |some (y,.cls _)=>y==x
 |some (y,.bf b)=>y==x&&e&&(S.calm||ah8 b)
 |some (y,.bt _)=>y==x&&e
 |some (y,.kl _ _ _)=>y==x&&S.calm
 |_=>ao
noncomputable def a00:jf->Option (jf×Str×Bool)
 |.Call (.Attribute y n ap) [] [] cp=>aj (y,n,ap.endLine==cp.line)
 |_=>aq
noncomputable def rZ:jf->Option (Str×jf)
 |.Call (.Name x _) [z] [] _=>aj (x,z)
 |_=>aq
noncomputable def lit:jf->Option (Str×Nat×Pos)
 |.Constant (.str y) j p=>aj (y,j,p)
 |_=>aq
noncomputable def aqD:List Str->List (Option jf)->Bool
 |[],[]=>ak
 |k::ks,aj (.Constant (.str k') _ _)::es=>k==k'&&aqD ks es
 |_,_=>ao
mutual
noncomputable def kE(S:SI):CE->jf->Bool
 |.fre i,.Name x _=>S.N[i]?==aj x&&S.ce[i]?==aj ak&&x !=("__debug__":Str)&&x !=("__classdict__":Str)
 |.var i,.Name x _=>S.N[i]?==aj x&&S.fl[i]?==aj ak
 |.con d,.Constant c _ _=>azY d c
 |.glo k,.Name x _=>S.gv[k]?==aj ak&&aqC S k x
 |.neg a,.UnaryOp .USub e _=>kE S a e
 |.aq6 a,.UnaryOp .Not e _=>kE S a e
 |.bin o a b,.BinOp x o' y _=>o==o'&&kE S a x&&kE S b y
 |.cmp o a b,.Compare x [o'] [y] _=>o==o'&&!behindInMarks o' y&&kE S a x&&kE S b y
 |.chain o o' a b c,.Compare x [p,p'] [y,z] _=>o==p&&o'==p'&&!lastMarks [p,p'] [y,z]&&kE S a x&&kE S b y&&kE S c z
 |.ah6 es,.BoolOp .And xs _=>wN S es xs
 |.ifx c a b,.IfExp t x y _=>kT S c t&&kE S a x&&kE S b y
 |.tup es,.Tuple xs _ _=>wN S es xs
 |.lst es,.List xs _=>wN S es xs
 |.dct,.Dict [] [] _=>ak
 |.ix a b,.Subscript x y _=>!isSlice y&&kE S a x&&kE S b y
 |.sl a lo hi,.Subscript x (.Slice l h aq _) _=>kE S a x&&kO S lo l&&kO S hi h
 |.call k es,.Call (.Name x _) xs [] _=>wN S es xs&&S.gv[k]?==aj ak&&ajB S k x (!xs.isEmpty)
 |.meth m o es,.Call (.Attribute y n ap) xs [] cp=>n==mkN m&&eZ y&&ap.endLine==cp.line&&decide (xs.length<30)&&kE S o y&&wN S es xs
 |.comp fl gv ci cc e,.ListComp elt [⟨.Name x _,iter,ifs,a⟩] scope _=>a==0&&xR S [x] scope fl gv&&!isSet iter&&kI S ao ci iter&&kC (S.cmp [x] fl gv) cc ifs&&kE (S.cmp [x] fl gv) e elt
 |.aaG n fl gv ci cc e,.ListComp elt [⟨.Tuple es _ _,iter,ifs,a⟩] scope _=>S.calm&&a==0&&(match a2V es with
  |some xs=>xs.length==n&&xR S xs scope fl gv&&!isSet iter&&kI S ak ci iter&&kC (S.cmp xs fl gv) cc ifs&&kE (S.cmp xs fl gv) e elt
  |none=>ao)
 |.eqd neg a b,.Compare x [o'] [y] _=>o'==(if neg then yc.NotEq else yc.Eq)&&kE S a x&&kE S b y
 |.maxD k e d,.Call (.Name x _) [y] [⟨aj n,z,_⟩] _=>n==("default":Str)&&S.calm&&S.gv[k]?==aj ak&&ajA S k x&&!isStar y&&kE S e y&&kE S d z
 |.dix a b,.Subscript x y _=>!isSlice y&&kE S a x&&kE S b y
 |.din neg a b,.Compare x [o'] [y] _=>o'==(if neg then yc.NotIn else yc.In)&&!behindInMarks o' y&&kE S a x&&kE S b y
 |.dgt o e f,.Call (.Attribute y n ap) [x,z] [] cp=>n==("get":Str)&&eZ y&&ap.endLine==cp.line&&!isStar x&&!isStar z&&kE S o y&&kE S e x&&kE S f z
 |.awN,.Dict [] [] _=>ak
 |.awO _ a b,.Dict [aj x] [y] _=>kE S a x&&kE S b y
 |_,_=>ao
noncomputable def wN(S:SI):CEs->List jf->Bool
 |.nil,[]=>ak
 |.cons e r,x::xs=>!isStar x&&kE S e x&&wN S r xs
 |_,_=>ao
noncomputable def kT(S:SI):CT->jf->Bool
 |.cmp o a b,.Compare x [o'] [y] _=>o==o'&&!behindInMarks o' y&&kE S a x&&kE S b y
 |.chain o o' a b c,.Compare x [p,p'] [y,z] _=>o==p&&o'==p'&&!lastMarks [p,p'] [y,z]&&kE S a x&&kE S b y&&kE S c z
 |.not t,.UnaryOp .Not e _=>kT S t e
 |.and ts,.BoolOp .And xs _=>kTs S ts xs
 |.or ts,.BoolOp .Or xs _=>kTs S ts xs
 |.eqd neg a b,.Compare x [o'] [y] _=>o'==(if neg then yc.NotEq else yc.Eq)&&kE S a x&&kE S b y
 |.din neg a b,.Compare x [o'] [y] _=>o'==(if neg then yc.NotIn else yc.In)&&!behindInMarks o' y&&kE S a x&&kE S b y
 |.val e,x=>plainT x&&kE S e x
 |_,_=>ao
noncomputable def kTs(S:SI):CTs->List jf->Bool
 |.nil,[]=>ak
 |.cons e r,x::xs=>kT S e x&&kTs S r xs
 |_,_=>ao
noncomputable def kO(S:SI):CO->Option jf->Bool
 |.none,aq=>ak
 |.some e,aj x=>kE S e x
 |_,_=>ao
noncomputable def kI(S:SI)(tt:Bool):CI->jf->Bool
 |.any e,x=>kE S e x
 |.ac3 e,.Call (.Name r _) [y] [] _=>r==("range":Str)&&oO S&&!isStar y&&kE S e y
 |.ah7 a b c,.Call (.Name r _) [y,z,v] [] _=>r==("range":Str)&&oO S&&!isStar y&&!isStar z&&!isStar v&&kE S a y&&kE S b z&&kE S c v
 |.zip a b,.Call (.Name r _) [y,z] [] _=>tt&&r==("zip":Str)&&aeK S&&!isStar y&&!isStar z&&kE S a y&&kE S b z
 |.items e,x=>tt&&(match a00 x with
  |some (y,n,l)=>l&&n==("items":Str)&&eZ y&&kE S e y
  |none=>ao)
 |.enu e,x=>tt&&(match rZ x with
  |some (r,y)=>r==("enumerate":Str)&&a6L S&&!isStar y&&kE S e y
  |none=>ao)
 |_,_=>ao
noncomputable def kC(S:SI):CC->List jf->Bool
 |.none,[]=>ak
 |.some t,[x]=>kT S t x
 |_,_=>ao
end
end L4
namespace L4
open PySem PySem.Spec PyProof.Rows L2
variable{env:Env}
theorem aK(h:isStar e=ao):je (e::es) env=(ao,eval e env)::je es env:=by
 cases e<;>first|rfl|(exact absurd (show ak=ao from h) (by decide))
theorem uZ{env:Env}{pos:Pos}:∀{cs:CEs}{xs:List jf},wN S cs xs=ak->(yh pos (je xs env)).any (·.1)=ao
 |.nil,[],_=>rfl
 |.nil,_::_,h=>absurd (show ao=ak from h) (by decide)
 |.cons _ _,[],h=>absurd (show ao=ak from h) (by decide)
 |.cons e r,x::xs,h=>by
  have h':(!isStar x&&kE S e x&&wN S r xs)=ak:=h;simp only[bw,gq]at h';rw[aK h'.1.1];show(ao||(yh pos (je xs env)).any (·.1))=ao;rw[uZ h'.2];rfl
theorem lB(h:eZ o=ak):zx o n env (eval o env)=eval o env:=by
 cases o with
 |Call f args kws pos =>
  cases f with
  |Name id p =>
   cases args with
   |nil =>
    cases kws with
    |nil =>
     have h':(id !=("super":Str))=ak:=h;unfold zx;simp only[h',Bool.true_or,if_true]
    |cons _ _=>rfl
   |cons _ _=>cases kws<;>rfl
  |_=>rfl
 |_=>rfl
noncomputable abbrev BMv:List bh:=[.type "ValueError",.type "Exception",.type "BaseException",.type "object"]
noncomputable def aDY(X:Cx)(cm:Bool)(x:Str):GT->Prop
 |.con d=>∃u v,X.mg x=aj u/\RelV v u/\∀H,RD X.K H d v
 |.cls a=>X.mg x=aj (.ref a)/\yt X.K a BMv "ValueError.__new__"=ak
 |.fn sp n qt=>(qt=ak∨cm=ak)->∃k f fd ps,bY qt X.prog X.w X.K X.mg X.base (gZ X.prog X.w) k f fd ps (cH X.K sp)/\d9 qt k X.A/\X.mg x=aj (.ref f)/\tu X.K (.ref f)=ak/\Binds X.K fd ps []
 |.bf b=>X.mg x=aq/\jr x=aj (aqB b)
 |.bt n=>X.mg x=aq/\jr x=aj (.type n)
 |.kl C sp dd=>cm=ak->∃k f fd ps ds yX,Mk X.K C f/\bY ao X.prog X.w X.K X.mg X.base (gZ X.prog X.w) k f fd ps (cH X.K sp)/\d9 ao (k+1) X.A/\X.mg x=aj (.ref C)/\Binds X.K fd ps ds/\Vals yX ds/\∀H,bQ X.K H dd yX
 |.me C m sp dd=>cm=ak->∃k f fd ps ds yX,Cls X.K C/\Meth X.K C m f/\bY ao X.prog X.w X.K X.mg X.base (gZ X.prog X.w) k f fd ps (cH X.K sp)/\d9 ao k X.A/\Binds X.K fd ps ds/\Vals yX ds/\∀H,bQ X.K H dd yX
 |.fl C f=>Cls X.K C/\anK X.K C f
 |.clo c sp=>cm=ak->∃k,adM ao X.prog X.w X.K X.mg X.base k c sp/\d9 ao k X.A
 |.fnP sp n=>cm=ak->∃k f fd ps,aeE ao X.prog X.w X.K X.mg X.base (gZ X.prog X.w) k f fd ps (cH X.K sp)/\d9 ao k X.A/\X.mg x=aj (.ref f)/\tu X.K (.ref f)=ak/\Binds X.K fd ps []
structure j8(X:Cx)(S:SI)(ex:aN->aX):Prop where
 N:X.N=S.N
 nd:X.N.Nodup
 vis:∀(i:Nat)(x:Str),S.N[i]?=aj x->S.fl[i]?=aj ak->Vis X.env.scope x/\(x==("__debug__":Str))=ao/\(x==("__classdict__":Str))=ao
 ce:∀(i:Nat)(x:Str),S.N[i]?=aj x->S.ce[i]?=aj ak->X.env.kindOf x=aj .cell∨X.env.kindOf x=aj .free
 gm:∀(k:Nat)(x:Str)(g:GT),S.gl[k]?=aj (x,g)->(S.gv[k]?=aj ak->Gl X x)/\(x==("__debug__":Str))=ao/\x≠"__name__"/\aDY X S.calm x g
 hu:X.A.units+64<kh
 cm:S.calm=ak->X.calm=ak
 cat:Cat X ex
 nk:S.need=ak->X.need=ak
theorem j8.gl{S:SI}{ex:aN->aX}(Q:j8 X S ex)(k:Nat)(x:Str)(g:GT)(h:S.gl[k]?=aj (x,g))(hv:S.gv[k]?=aj ak):Gl X x/\(x==("__debug__":Str))=ao/\x≠"__name__"/\aDY X S.calm x g :=
 ⟨(Q.gm k x g h).1 hv,(Q.gm k x g h).2⟩
section
variable{X:Cx}{ex:aN->aX}
theorem aqE:cF X e aq8:=λ_ _ _ _ _ _ ⟨_,_,_,_,_,z,_⟩=>z.elim
theorem awP:a5P X (wg o) (azX o):=by
 have no:∀{f:bh->bh->Sem bh},a5P X f (λ_ _ _ _=>False):=λ{f}=>⟨λ_ _ _ _=>False,λ_ _ _ _ _ _ _ _ _ _ _ _ h=>h.elim,λ_ _ _ _ _ _ _ _ _ _ _ h _=>h.elim⟩;exact match o with
 |.Add=>aI8
 |.Sub=>aI3
 |.Mult=>aI4
 |.FloorDiv=>aC2
 |.Mod=>aI5
 |.Pow=>aI6
 |.MatMult=>no
 |.Div=>no
 |.LShift=>no
 |.RShift=>no
 |.BitOr=>no
 |.BitXor=>no
 |.BitAnd=>no
theorem wO(hu:X.A.units+64<kh):lU X (jg o) (a6K o):=by
 exact match o with
 |.Eq=>aNX hu
 |.NotEq=>aNY hu
 |.Lt=>aNC
 |.LtE=>aNF
 |.Gt=>aND
 |.GtE=>aNE
 |.Is=>aNG
 |.IsNot=>aC4
 |.In=>aO0 hu
 |.NotIn=>avB hu
set_option tactic.hygienic true in
theorem aK1{n:String}:cD X (.type n) (aDQ n):=by
 unfold aDQ;split
 ·rename_i h;subst h;exact aIO
 .split
  ·rename_i h;subst h;exact aCL
  .split
   ·rename_i h;subst h;exact aJN
   .split
    ·rename_i h;subst h;exact aw9
    .exact λ_ _ _ _ _ _ _ _ _ _ _ _ _ _ h _=>h.elim
theorem aqF{qt:Bool}{k:Nat}{x:Str}{p pos:Pos}(F:bY qt X.prog X.w X.K X.mg X.base (gZ X.prog X.w) k f fd ps (cH X.K sp))(hr:d9 qt k X.A)(hg:Gl X x)(hm:X.mg x=aj (.ref f))(hk:tu X.K (.ref f)=ak)(hb:Binds X.K fd ps [])(hx:Cat X ex)
  (hdb:(x==("__debug__":Str))=ao):cF X (.Call (.Name x p) [] [] pos) (aU sp ex aC):=by
 intro pins s σ H Q I h _tk;obtain⟨ρ,G,R,sr,g,q,kk⟩:=h;refine yp (mH I hg hm ?_ hdb);refine PySem.W.callWith_K0 I.kIn hk ?_;exact aiO (E:=a2P X.K (ex ρ)) F hr hb (λe s' c=>hx.aiN pins σ H s ρ e s' I sr c) I .nil (Q:=λv H'=>∃d G',RD X.K H' d v/\HR X.K H' G'/\R d G') ⟨[],G,R,ex ρ,.nil,g,q,λv H' d G' r2 g2 q2=>⟨d,G',r2,g2,q2⟩,λC H' G' g' q'=>⟨C,G',rfl,g',q'⟩⟩ (by rintro v H' t2 ⟨d,G',r2,g2,q2⟩;exact kk v H' d G' t2 r2 g2 q2)
theorem ac5{xs:List jf}{cs:CEs}(h:wN S cs xs=ak)(hl:xs.length<30):((yh cp (je xs X.env)).all (λx=>!x.1)&&(backToKw cp (keywordEach [] X.env)).all (λx=>x.1.isSome)
   &&decide (xs.length+([]:List Keyword).length+(if([]:List Keyword).isEmpty then 0 else 1)<30))=ak:=by
 have h1:(yh cp (je xs X.env)).all (λx=>!x.1)=ak:=by
  rw[jq];intro y hy;have:=uZ (env:=X.env) (pos:=cp) h;rw[List.any_eq_false]at this;have:=this y hy;simpa using this
 have h2:(decide (xs.length+([]:List Keyword).length+(if([]:List Keyword).isEmpty then 0 else 1)<30))=ak:=decide_eq_true (by simpa using hl);rw[h1,h2];rfl
end
end L4
namespace L4
open PySem PySem.Spec PyProof.Rows L2
variable{j:Nat}{pos p:Pos}{x:Str}{m:MK}{env:Env}{scope:uh}{neg:Bool}
section
variable{X:Cx}{S:SI}{ex:aN->aX}
theorem aDZ(h:azY d c=ak):cF X (.Constant c j pos) (aO d):=by
 cases d<;>cases c<;>first|exact absurd (show ao=ak from h) (by decide)|skip
 .exact aHQ
 .have:=beq_iff_eq.mp h;subst this;exact aN8
 .have:=beq_iff_eq.mp h;subst this;exact aHP
 .have:=beq_iff_eq.mp h;subst this;exact aHR
theorem aE0{e:jf}(h:plainT e=ak):∀whole,isTrue e X.env whole=(do let v ←whole;standAt e.pos;a0g [v] (truthy v)):=by
 cases e with
 |UnaryOp op x p=>cases op<;>first|exact absurd (show ao=ak from h) (by decide)|(intro _;rfl)
 |BoolOp _ _ _=>exact absurd (show ao=ak from h) (by decide)
 |IfExp _ _ _ _=>exact absurd (show ao=ak from h) (by decide)
 |Compare _ _ _ _=>exact absurd (show ao=ak from h) (by decide)
 |_=>intro _;rfl
theorem azZ(h:isSlice e=ao):ab4 e:=by
 cases e with
 |Slice _ _ _ _=>exact absurd (show ak=ao from h) (by decide)
 |_=>intro _ _;rfl
theorem aK2(Q:j8 X S ex){k:Nat}{b:BF}(hk:S.gl[k]?=aj (x,.bf b))(hv:S.gv[k]?=aj ak)(hc:(S.calm||ah8 b)=ak){t:nH}(ha:PA3 X (e::es) t)(he:isStar e=ao)(hp:(yh pos (je es X.env)).any (·.1)=ao):cF X (.Call (.Name x p) (e::es) [] pos) (cU (aJZ X.K b) t):=by
 obtain⟨h1,h2,h3,h4⟩:=Q.gl _ _ _ hk hv
 have cm:ah8 b=ao->X.calm=ak:=λz=>by
  rw[z,Bool.or_false]at hc;exact Q.cm hc
 cases b with
 |len=>exact rR aIM h1 h4.1 h4.2 ha h3 h2 (aK he) hp
 |abs=>exact rR aIN h1 h4.1 h4.2 ha h3 h2 (aK he) hp
 |isi=>exact rR abG h1 h4.1 h4.2 ha h3 h2 (aK he) hp
 |min=>exact rR (aD5 (cm rfl)) h1 h4.1 h4.2 ha h3 h2 (aK he) hp
 |max=>exact rR (aD4 (cm rfl)) h1 h4.1 h4.2 ha h3 h2 (aK he) hp
 |sum=>exact rR (aJ1 (cm rfl)) h1 h4.1 h4.2 ha h3 h2 (aK he) hp
 |aeI=>exact a5U (aw8 (cm rfl)) h1 h4.1 h4.2 ha h3 h2 (aK he) hp
 |aaE=>exact a5U (aw6 (cm rfl) Q.hu) h1 h4.1 h4.2 ha h3 h2 (aK he) hp
 |awM=>exact rR (aDN (cm rfl) Q.hu) h1 h4.1 h4.2 ha h3 h2 (aK he) hp
theorem awQ{ap cp:Pos}(ho:cF X o to)(hb:eZ o=ak)(hl:(ap.endLine==cp.line)=ak):cF X (.Call (.Attribute o (mkN m) ap) [] [] cp) (aoJ (mkT m) (mkR m) to):=by
 cases m with
 |append=>exact aoK PySem.F.plainAttrs_list PySem.F.slot_list_append PySem.F.type_list_append adR ho (lB hb) hl
 |clear=>exact aoK PySem.F.plainAttrs_list PySem.F.slot_list_clear PySem.F.type_list_clear aj3 ho (lB hb) hl
 |insert=>exact aoK PySem.F.plainAttrs_list PySem.F.slot_list_insert PySem.F.type_list_insert aeG ho (lB hb) hl
theorem aqG{t:nH}{cs:CEs}{ap cp:Pos}(ho:cF X o to)(ha:PA3 X (e::es) t)(hb:eZ o=ak)(hl:(ap.endLine==cp.line)=ak)(hk:wN S cs (e::es)=ak)(hn:(e::es).length<30) :
  cF X (.Call (.Attribute o (mkN m) ap) (e::es) [] cp) (tM3 (mkT m) (mkR m) to t):=by
 have he:isStar e=ao:=by
  cases cs with
  |nil=>exact absurd (show ao=ak from hk) (by decide)
  |cons c r =>
   have h':(!isStar e&&kE S c e&&wN S r es)=ak:=hk;simp only[bw,gq]at h';exact h'.1.1
 have hp:(yh cp (je es X.env)).any (·.1)=ao:=by
  have:=uZ (env:=X.env) (pos:=cp) hk;rw[aK he]at this;have z:(ao||(yh cp (je es X.env)).any (·.1))=ao:=this;simpa using z
 cases m with
 |append=>exact aCR PySem.F.plainAttrs_list PySem.F.slot_list_append PySem.F.type_list_append adR ho ha (lB hb) (ac5 hk hn) hl (aK he) hp
 |clear=>exact aCR PySem.F.plainAttrs_list PySem.F.slot_list_clear PySem.F.type_list_clear aj3 ho ha (lB hb) (ac5 hk hn) hl (aK he) hp
 |insert=>exact aCR PySem.F.plainAttrs_list PySem.F.slot_list_insert PySem.F.type_list_insert aeG ho ha (lB hb) (ac5 hk hn) hl (aK he) hp
local macro_rules| `(tactic| walk_at "off")=>`(tactic| exact absurd (show ao=ak from by assumption) (by decide))
set_option tactic.hygienic true in
theorem aE1(Q:j8 X S ex){k:Nat}(h:kE S (.glo k) (.Name x p)=ak):cF X (.Name x p) (aDR S.gl k):=by
 have h':(S.gv[k]?==aj ak&&aqC S k x)=ak:=h;rw[bw]at h';obtain⟨hv,h⟩:=h';have hv:=beq_iff_eq.mp hv;unfold aqC at h;unfold aDR;split at h
 .rename_i y d hk;have:=beq_iff_eq.mp h;subst this;obtain⟨h1,h2,h3,u,v,h4,h5,h6⟩:=Q.gl _ _ _ hk hv;exact ao3 h1 h4 h5 h6 h2
 .rename_i y d hk;have:=beq_iff_eq.mp h;subst this;obtain⟨h1,h2,h3,h4⟩:=Q.gl _ _ _ hk hv;exact ao3 h1 h4.1 (v:=.ref d) rfl (λ_=>.ref _) h2
 .rename_i y d hk;have:=beq_iff_eq.mp h;subst this;obtain⟨h1,h2,h3,h4⟩:=Q.gl _ _ _ hk hv;exact aBY h1 h4.1 h4.2 h3 h2
 .exact absurd h (by decide)
set_option tactic.hygienic true in
theorem awR(Q:j8 X S ex){k:Nat}{xs:List jf}(ha:PA3 X xs (mA S.gl X.K ex es))(hk:wN S es xs=ak)(hv:S.gv[k]?=aj ak)(h:ajB S k x (!xs.isEmpty)=ak):cF X (.Call (.Name x p) xs [] pos) (aDS S.gl X.K ex k (mA S.gl X.K ex es)):=by
 unfold ajB at h;unfold aDS
 have one:∀{e:jf}{r:List jf},xs=e::r->isStar e=ao/\(yh pos (je r X.env)).any (·.1)=ao:=λ{e r} z=>by
  subst z;cases es with
  |nil=>exact absurd (show ao=ak from hk) (by decide)
  |cons c cr =>
   have h':(!isStar e&&kE S c e&&wN S cr r)=ak:=hk;simp only[bw,gq]at h';exact⟨h'.1.1,uZ h'.2⟩
 split at h
 .rename_i y sp n qt hg;rw[bw]at h;obtain⟨h,hc⟩:=h;have:=beq_iff_eq.mp h;subst this;obtain⟨h1,h2,h3,h4⟩:=Q.gl _ _ _ hg hv;obtain⟨j,f,fd,ps,F,hr,hm,hkp,hb⟩:=h4 (a0i _ _ |>.mp hc);cases xs with
  |nil =>
   cases es with
   |nil=>exact aqF F hr h1 hm hkp hb Q.cat h2
   |cons _ _=>exact absurd (show ao=ak from hk) (by decide)
  |cons e r=>exact av5 F hr h1 hm hkp hb Q.cat ha h2 (aK (one rfl).1) (one rfl).2
 .rename_i y a hg;have:=beq_iff_eq.mp h;subst this;obtain⟨h1,h2,h3,h4,h5⟩:=Q.gl _ _ _ hg hv;cases xs with
  |nil =>
   cases es with
   |nil=>exact aD6 PySem.F.excBase_ValueError (by decide) PySem.F.excBase_ValueError h1 h4 h5 h2
   |cons _ _=>exact absurd (show ao=ak from hk) (by decide)
  |cons e r=>exact aJ6 PySem.F.excBase_ValueError (by decide) PySem.F.excBase_ValueError h1 h4 h5 ha h2 (aK (one rfl).1) (one rfl).2
 .rename_i y b hg;rw[bw,bw]at h;obtain⟨⟨h,hc⟩,hcm⟩:=h;have:=beq_iff_eq.mp h;subst this;cases xs with
  |nil=>exact absurd (show ao=ak from hc) (by decide)
  |cons e r=>exact aK2 Q hg hv hcm ha (one rfl).1 (one rfl).2
 .rename_i y n hg;rw[bw]at h;obtain⟨h,hc⟩:=h;have:=beq_iff_eq.mp h;subst this;obtain⟨h1,h2,h3,h4⟩:=Q.gl _ _ _ hg hv;cases xs with
  |nil=>exact absurd (show ao=ak from hc) (by decide)
  |cons e r=>exact a5U aK1 h1 h4.1 h4.2 ha h3 h2 (aK (one rfl).1) (one rfl).2
 .rename_i y C sp dd hg;rw[bw]at h;obtain⟨h,hc⟩:=h;have:=beq_iff_eq.mp h;subst this;obtain⟨h1,h2,h3,h4⟩:=Q.gl _ _ _ hg hv;obtain⟨kk,f,fd,ps,ds,yX,q1,q2,q3,q4,q5,q6,q7⟩:=h4 hc;cases xs with
  |nil =>
   cases es with
   |nil=>exact ap1 q1 q2 q3 h1 q4 q5 q6 q7 Q.cat h2
   |cons _ _=>exact absurd (show ao=ak from hk) (by decide)
  |cons e r=>exact avR q1 q2 q3 h1 q4 q5 q6 q7 Q.cat ha h2 (aK (one rfl).1) (one rfl).2
 .exact absurd h (by decide)
theorem nQ{names:List (Str×nj)}{k:nj}(h:names.lookup y=aj k) :
  (names.map λ(n,k)=>if(k==.free&&env.scope.kind==.function&&env.kindOf n==aj .cell)then(n,.cell)else(n,k)).lookup y=aj k ∨
  (k=.free/\(names.map λ(n,k)=>if(k==.free&&env.scope.kind==.function&&env.kindOf n==aj .cell)then(n,.cell)else(n,k)).lookup y=aj .cell):=by
 induction names with
 |nil=>simp at h
 |cons p r ih =>
  obtain⟨n,kd⟩:=p;rw[jo]at h;show a2d y ((if(kd==.free&&env.scope.kind==.function&&env.kindOf n==aj .cell)=ak then(n,nj.cell)else(n,kd))::_)=aj k∨(k=.free/\a2d y ((if(kd==.free&&env.scope.kind==.function&&env.kindOf n==aj .cell)=ak then(n,nj.cell)else(n,kd))::_)=aj .cell);cases hx:y==n with
  |true =>
   rw[hx]at h;have hkd:kd=k:=by simpa using h
   subst hkd;by_cases hc:(kd==.free&&env.scope.kind==.function&&env.kindOf n==aj .cell)=ak
   .rw[if_pos hc,jo,hx];refine .inr ⟨?_,rfl⟩;simp only[bw,beq_iff_eq]at hc;exact hc.1.1
   .rw[if_neg hc,jo,hx];exact .inl rfl
  |false =>
   rw[hx]at h;have z:=ih h;by_cases hc:(kd==.free&&env.scope.kind==.function&&env.kindOf n==aj .cell)=ak
   .rw[if_pos hc,jo,hx];exact z
   .rw[if_neg hc,jo,hx];exact z
theorem aaH:∀{xs:List Str},ac4 xs=ak->xs.Nodup
 |[],_=>a1B
 |x::r,h=>by
  have h':(!r.contains x&&ac4 r)=ak:=h;rw[bw]at h';exact vo.mpr ⟨by simpa using h'.1,aaH h'.2⟩
theorem a2W{xs:List Str}{fl gv:List Bool}(h:xR S xs scope fl gv=ak) :
  scope.kind=.function/\(∀y∈scope.names,y.2≠.cell/\(y.2=.local->scope.names.lookup y.1=aj .local)/\(y.2=.free->aDX S y.1=ak)) /\
  (∀x∈xs,scope.names.lookup x=aj .local/\x∉S.N/\(x==("__debug__":Str))=ao/\(x==("__classdict__":Str))=ao)/\xs.Nodup/\(∀y∈S.N,scope.names.lookup y≠aj .local) /\
  (∀(i:Nat)(y:Str),S.N[i]?=aj y->fl[i]?=aj ak->S.fl[i]?=aj ak/\scope.names.lookup y=aj .free) /\
  ∀(k:Nat)(y:Str)(g:GT),S.gl[k]?=aj (y,g)->gv[k]?=aj ak->scope.names.lookup y=aj .globalImplicit:=by
 unfold xR at h;simp only[bw]at h;obtain⟨⟨⟨⟨⟨⟨h1,h2⟩,h3⟩,h4⟩,h5⟩,h8⟩,h9⟩:=h;refine⟨beq_iff_eq.mp h1,λy hy=>?_,λx hx=>?_,aaH h4,λy hy=>?_,λi y e1 e2=>?_,λk y g e1 e2=>?_⟩
 .have z:=jq.mp h2 y hy;simp only[bw,bne_iff_ne,ne_eq,a0i,beq_iff_eq]at z;obtain⟨⟨z1,z2⟩,z3⟩:=z;exact⟨z1,λe=>z2.resolve_left λn=>n e,λe=>z3.resolve_left λn=>n e⟩
 .have z:=jq.mp h3 x hx;simp only[bw]at z;obtain⟨⟨⟨z1,z2⟩,z3⟩,z4⟩:=z;exact⟨beq_iff_eq.mp z1,by simpa using z2,by simpa using z3,by simpa using z4⟩
 .have z:=jq.mp h5 y hy;simpa using z
 .have z:=jq.mp h8 i (xg.mpr (gj.mp e1).1);rw[e2,e1]at z;simpa using z
 .have z:=jq.mp h9 k (xg.mpr (gj.mp e1).1);rw[e2,e1]at z;simpa using z
theorem jU(Q:j8 X S ex){fl gv:List Bool}(h:xR S xs scope fl gv=ak):rT X xs scope:=by
 obtain⟨h1,h2,h3,h4,h5,h8,h9⟩:=a2W h;refine⟨h1,λy hy=>(h2 y hy).1,λy hy=>(h2 y hy).2.1,λx hx=>(h3 x hx).1,λy hy e=>?_,λx hx=>by rw[Q.N];exact(h3 x hx).2.1,h4,by rw[Q.N];exact h5⟩;have z:=(h2 y hy).2.2 e;unfold aDX at z;obtain⟨i,_,z⟩:=a2g.mp z;rw[bw]at z;exact Q.ce i y.1 (beq_iff_eq.mp z.1) (beq_iff_eq.mp z.2)
theorem aqH{X:Cx}:Cat X NoX:=⟨by rintro _ _ _ _ _ _ _ _ _ ⟨_,_,_,_,_,_,_,_,_,_,_,_,_,_,_,_,z⟩;exact z.elim⟩
theorem aaI{α:Type}{xs ys:List α}{i:Nat}{y:α}(h:(xs++ys)[i]?=aj y):(i<xs.length/\y∈xs)∨∃j,i=xs.length+j/\ys[j]?=aj y:=by
 by_cases c:i<xs.length
 .rw[pq c]at h;exact .inl ⟨c,lq h⟩
 .rw[uo (by omega)]at h;exact .inr ⟨i - xs.length,by omega,h⟩
theorem ajC{α β:Type}{xs:List α}{f:α->β}{ys:List β}:(xs.map f++ys)[xs.length+j]?=ys[j]?:=by
 rw[uo (by simp)];congr 1;simp
theorem j8.cmp(Q:j8 X S ex){fl gv:List Bool}(h:xR S xs scope fl gv=ak)(C:bx)(s:cj)(H:Hp)(fp:List bx)(pins:List (bx×Obj)):j8 (j7 X xs scope C s H fp pins) (S.cmp xs fl gv) NoX:=by
 obtain⟨h1,h2,h3,h4,h5,h8,h9⟩:=a2W h;refine⟨by show xs++X.N=xs++S.N;rw[Q.N],agZ (jU Q h) Q.nd,λi y e1 e2=>?_,λi y e1 e2=>?_,λk y g e1=>?_,Q.hu,Q.cm,aqH,λz=>nomatch z⟩
 .rcases aaI e1 with⟨_,m⟩|⟨j,rfl,e1'⟩
  .obtain⟨a1,a2,a3,a4⟩:=h3 y m;exact⟨.inl (a0m a1),a3,a4⟩
  .have e2':fl[j]?=aj ak:=ajC.symm.trans e2;obtain⟨a1,a2⟩:=h8 j y e1' e2';obtain⟨_,b2,b3⟩:=Q.vis j y e1' a1;refine⟨?_,b2,b3⟩;rcases nQ (env:=X.env) a2 with z|⟨_,z⟩
   .exact .inr (.inr z)
   .exact .inr (.inl z)
 .rcases aaI e1 with⟨c,m⟩|⟨j,rfl,e1'⟩
  .have e2':(xs.map (λ_=>ao)++fl)[i]?=aj ak:=e2;rw[pq (by simpa using c)]at e2';simp at e2'
  .have e2':fl[j]?=aj ak:=ajC.symm.trans e2;obtain⟨a1,a2⟩:=h8 j y e1' e2';rcases nQ (env:=X.env) a2 with z|⟨_,z⟩
   .exact .inr z
   .exact .inl z
 .obtain⟨b1,b2,b3,b4⟩:=Q.gm k y g e1;refine⟨λe2=>?_,b2,b3,?_⟩
  .rcases nQ (env:=X.env) (h9 k y g e1 e2)with z|⟨z,_⟩
   .exact z
   .cases z
  .cases g<;>exact b4
theorem aeL:∀{es:List jf}{xs:List Str},a2V es=aj xs->Two (λe x=>∃p,e=jf.Name x p) es xs
 |[],xs,h=>by
  have:xs=[]:=by simpa[a2V]using h.symm
  subst this;exact .nil
 |e::es,xs,h=>by
  cases e with
  |Name x p =>
   have h':(a2V es).map (x:: ·)=aj xs:=h;cases q:a2V es with
   |none=>rw[q]at h';cases h'
   |some r =>
    rw[q]at h';have:xs=x::r:=by simpa using h'.symm
    subst this;exact .cons ⟨p,rfl⟩ (aeL q)
  |_=>exact absurd (show(aq:Option (List Str))=aj xs from h) (λz=>nomatch z)
theorem ajD(hu:X.A.units+64<kh)(h:(o==(if neg then yc.NotEq else yc.Eq))=ak):lU X (jg o) (aq9 neg):=by
 have:=beq_iff_eq.mp h;subst this;cases neg with
 |true=>exact aJ4 hu
 |false=>exact aJ3 hu
set_option tactic.hygienic true in
theorem a01(Q:j8 X S ex)(h:oO S=ak):Gl X "range"/\X.mg "range"=aq:=by
 unfold oO at h;obtain⟨k,_,h⟩:=a2g.mp h;rw[bw]at h;obtain⟨hv,h⟩:=h;split at h
 .rename_i y n e;rw[bw]at h;have:=beq_iff_eq.mp h.1;subst this;obtain⟨g1,g2,g3,g4⟩:=Q.gl _ _ _ e (beq_iff_eq.mp hv);exact⟨g1,g4.1⟩
 .exact absurd h (by decide)
theorem aqI(hu:X.A.units+64<kh)(h:(o==(if neg then yc.NotIn else yc.In))=ak):lU X (jg o) (aDT neg):=by
 have:=beq_iff_eq.mp h;subst this;cases neg with
 |true=>exact aDA hu
 |false=>exact aJE hu
set_option tactic.hygienic true in
theorem aqJ(Q:j8 X S ex)(h:aeK S=ak):Gl X "zip"/\X.mg "zip"=aq/\jr "zip"=aj (.type "zip"):=by
 unfold aeK at h;obtain⟨k,_,h⟩:=a2g.mp h;rw[bw]at h;obtain⟨hv,h⟩:=h;split at h
 .rename_i y n e;rw[bw]at h;have e1:=beq_iff_eq.mp h.1;have e2:=beq_iff_eq.mp h.2;subst e1;subst e2;obtain⟨g1,g2,g3,g4⟩:=Q.gl _ _ _ e (beq_iff_eq.mp hv);exact⟨g1,g4.1,g4.2⟩
 .exact absurd h (by decide)
set_option tactic.hygienic true in
theorem ajE(Q:j8 X S ex)(h:a6L S=ak):Gl X "enumerate"/\X.mg "enumerate"=aq/\jr "enumerate"=aj (.type "enumerate"):=by
 unfold a6L at h;obtain⟨k,_,h⟩:=a2g.mp h;rw[bw]at h;obtain⟨hv,h⟩:=h;split at h
 .rename_i y n e;rw[bw]at h;have e1:=beq_iff_eq.mp h.1;have e2:=beq_iff_eq.mp h.2;subst e1;subst e2;obtain⟨g1,g2,g3,g4⟩:=Q.gl _ _ _ e (beq_iff_eq.mp hv);exact⟨g1,g4.1,g4.2⟩
 .exact absurd h (by decide)
set_option tactic.hygienic true in
theorem aqK(Q:j8 X S ex){k:Nat}(h:ajA S k x=ak)(hv:S.gv[k]?=aj ak):Gl X x/\X.mg x=aq/\jr x=aj (.builtin "max")/\x≠"__name__"/\(x==("__debug__":Str))=ao:=by
 unfold ajA at h;split at h
 .rename_i y b e;rw[bw]at h;have e1:=beq_iff_eq.mp h.1;have e2:=beq_iff_eq.mp h.2;subst e1;obtain⟨g1,g2,g3,g4⟩:=Q.gl _ _ _ e hv;exact⟨g1,g4.1,by rw[←e2];exact g4.2,g3,g2⟩
 .exact absurd h (by decide)
theorem a6M{w:jf}{l:Bool}(h:a00 w=aj (y,n,l)):∃ap cp,w=.Call (.Attribute y n ap) [] [] cp/\l=(ap.endLine==cp.line):=by
 unfold a00 at h;split at h
 .cases h;exact⟨_,_,rfl,rfl⟩
 .cases h
theorem a6N{w:jf}(h:rZ w=aj (x,z)):∃p q,w=.Call (.Name x p) [z] [] q:=by
 unfold rZ at h;split at h
 .cases h;exact⟨_,_,rfl⟩
 .cases h
theorem aeM(h:isSet e=ao):∀x,a0l e env x=pure x:=by
 cases e<;>first|(intro _;rfl)|exact absurd (show ak=ao from h) (by decide)
end
end L4
namespace L4
open PySem PySem.Spec PyProof.Rows L2
theorem aP{P:Prop}(h:ao=ak):P:=absurd h (by decide)
theorem aE2{t:TI3}(h:PIS X tg e t):PI3 X tg e t:=PI.imp h λσ H Q ⟨ρ,G,R,sr,g,q,k⟩=>⟨ρ,G,R,sr,g,q,λsrc J H' G' t1 g1 sS r=>k src J H' G' t1 g1 (λH2 G2 _ g2 ok=>sS H2 G2 g2 ok) r⟩
mutual
theorem dN{X:Cx}{S:SI}{ex:aN->aX}(Q:j8 X S ex):∀(c:CE)(e:jf),kE S c e=ak->cF X e (mE S.gl X.K ex c)
 |.fre i,e,h=>by
  cases e with
  |Name x p =>
   have h':(S.N[i]?==aj x&&S.ce[i]?==aj ak&&x !=("__debug__":Str)&&x !=("__classdict__":Str))=ak:=h;simp only[bw]at h';have e1:=beq_iff_eq.mp h'.1.1.1;have v:Vis X.env.scope x:=(Q.ce i x e1 (beq_iff_eq.mp h'.1.1.2)).elim (λz=>.inr (.inl z)) (λz=>.inr (.inr z));exact azD i (by rw[Q.N];exact e1) v (beq_eq_false_iff_ne.mpr (bne_iff_ne.mp h'.1.2)) (beq_eq_false_iff_ne.mpr (bne_iff_ne.mp h'.2))
  |_=>exact aP h
 |.var i,e,h=>by
  cases e with
  |Name x p =>
   have h':(S.N[i]?==aj x&&S.fl[i]?==aj ak)=ak:=h;rw[bw]at h';have e1:=beq_iff_eq.mp h'.1;obtain⟨v1,v2,v3⟩:=Q.vis i x e1 (beq_iff_eq.mp h'.2);exact azD i (by rw[Q.N];exact e1) v1 v2 v3
  |_=>exact aP h
 |.con d,e,h=>by
  cases e with
  |Constant c j p=>exact aDZ h
  |_=>exact aP h
 |.glo k,e,h=>by
  cases e with
  |Name x p=>exact aE1 Q h
  |_=>exact aP h
 |.neg a,e,h=>by
  cases e with
  |UnaryOp op x p =>
   cases op with
   |USub=>exact aIJ (dN Q a x h)
   |_=>exact aP h
  |_=>exact aP h
 |.aq6 a,e,h=>by
  cases e with
  |UnaryOp op x p =>
   cases op with
   |Not=>exact aHZ (dN Q a x h)
   |_=>exact aP h
  |_=>exact aP h
 |.bin o a b,e,h=>by
  cases e with
  |BinOp x o' y p =>
   have h':(o==o'&&kE S a x&&kE S b y)=ak:=h;simp only[bw]at h';have:=beq_iff_eq.mp h'.1.1;subst this;exact aN9 awP (dN Q a x h'.1.2) (dN Q b y h'.2)
  |_=>exact aP h
 |.cmp o a b,e,h=>by
  cases e with
  |Compare x ops ys p =>
   match ops,ys,h with
   |[o'],[y],h =>
    have h':(o==o'&&!behindInMarks o' y&&kE S a x&&kE S b y)=ak:=h;simp only[bw,gq]at h';have:=beq_iff_eq.mp h'.1.1.1;subst this;exact ao4 (wO Q.hu) (dN Q a x h'.1.2) (dN Q b y h'.2) h'.1.1.2
   |[],_,h=>exact aP h
   |_::_::_,_,h=>exact aP h
   |[_],[],h=>exact aP h
   |[_],_::_::_,h=>exact aP h
  |_=>exact aP h
 |.chain o o' a b c,e,h=>by
  cases e with
  |Compare x ops ys p =>
   match ops,ys,h with
   |[p1,p2],[y,z],h =>
    have h':(o==p1&&o'==p2&&!lastMarks [p1,p2] [y,z]&&kE S a x&&kE S b y&&kE S c z)=ak:=h;simp only[bw,gq]at h';have e1:=beq_iff_eq.mp h'.1.1.1.1.1;have e2:=beq_iff_eq.mp h'.1.1.1.1.2;subst e1;subst e2;exact auW (wO Q.hu) (wO Q.hu) (dN Q a x h'.1.1.2) (dN Q b y h'.1.2) (dN Q c z h'.2) h'.1.1.1.2
   |[],_,h=>exact aP h
   |[_],_,h=>exact aP h
   |_::_::_::_,_,h=>exact aP h
   |[_,_],[],h=>exact aP h
   |[_,_],[_],h=>exact aP h
   |[_,_],_::_::_::_,h=>exact aP h
  |_=>exact aP h
 |.ah6 es,e,h=>by
  cases e with
  |BoolOp op xs p =>
   cases op with
   |And=>exact aA0 Q es xs p h
   |Or=>exact aP h
  |_=>exact aP h
 |.ifx c a b,e,h=>by
  cases e with
  |IfExp t x y p =>
   have h':(kT S c t&&kE S a x&&kE S b y)=ak:=h;simp only[bw]at h';exact auY (okT Q c t h'.1.1) (dN Q a x h'.1.2) (dN Q b y h'.2)
  |_=>exact aP h
 |.tup es,e,h=>by
  cases e with
  |Tuple xs j p=>exact azG (okA Q es xs h)
  |_=>exact aP h
 |.lst es,e,h=>by
  cases e with
  |List xs p=>exact aI0 (okA Q es xs h)
  |_=>exact aP h
 |.dct,e,h=>by
  cases e with
  |Dict ks vs p =>
   match ks,vs,h with
   |[],[],_=>exact aCS
   |_::_,_,h=>exact aP h
   |[],_::_,h=>exact aP h
  |_=>exact aP h
 |.ix a b,e,h=>by
  cases e with
  |Subscript x y p =>
   have h':(!isSlice y&&kE S a x&&kE S b y)=ak:=h;simp only[bw,gq]at h';exact aNH (dN Q a x h'.1.2) (dN Q b y h'.2) (azZ h'.1.1)
  |_=>exact aP h
 |.sl a lo hi,e,h=>by
  cases e with
  |Subscript x y p =>
   cases y with
   |Slice l u st q =>
    cases st with
    |none =>
     have h':(kE S a x&&kO S lo l&&kO S hi u)=ak:=h;simp only[bw]at h';exact avD (dN Q a x h'.1.1) (okO Q lo l h'.1.2) (okO Q hi u h'.2)
    |some _=>exact aP h
   |_=>exact aP h
  |_=>exact aP h
 |.call k es,e,h=>by
  cases e with
  |Call f xs kws p =>
   cases f with
   |Name x q =>
    cases kws with
    |nil =>
     have h':(wN S es xs&&S.gv[k]?==aj ak&&ajB S k x (!xs.isEmpty))=ak:=h;simp only[bw]at h';exact awR Q (okA Q es xs h'.1.1) h'.1.1 (beq_iff_eq.mp h'.1.2) h'.2
    |cons _ _=>exact aP h
   |_=>exact aP h
  |_=>exact aP h
 |.meth m o .nil,e,h=>by
  cases e with
  |Call f xs kws p =>
   cases f with
   |Attribute y n ap =>
    cases kws with
    |nil =>
     have h':(n==mkN m&&eZ y&&ap.endLine==p.line&&decide (xs.length<30)&&kE S o y&&wN S .nil xs)=ak:=h;simp only[bw]at h';obtain⟨⟨⟨⟨⟨h1,h2⟩,h3⟩,h4⟩,h5⟩,h6⟩:=h';have:=beq_iff_eq.mp h1;subst this;cases xs with
     |nil=>exact awQ (dN Q o y h5) h2 h3
     |cons _ _=>exact aP h6
    |cons _ _=>exact aP h
   |_=>exact aP h
  |_=>exact aP h
 |.meth m o (.cons c r),e,h=>by
  cases e with
  |Call f xs kws p =>
   cases f with
   |Attribute y n ap =>
    cases kws with
    |nil =>
     have h':(n==mkN m&&eZ y&&ap.endLine==p.line&&decide (xs.length<30)&&kE S o y&&wN S (.cons c r) xs)=ak:=h;simp only[bw]at h';obtain⟨⟨⟨⟨⟨h1,h2⟩,h3⟩,h4⟩,h5⟩,h6⟩:=h';have:=beq_iff_eq.mp h1;subst this;cases xs with
     |nil=>exact aP h6
     |cons x xs =>
      have h7:(!isStar x&&kE S c x&&wN S r xs)=ak:=h6;simp only[bw,gq]at h7;exact aqG (dN Q o y h5) (dH (dN Q c x h7.1.2) (okA Q r xs h7.2) (aK h7.1.1)) h2 h3 h6 (of_decide_eq_true h4)
    |cons _ _=>exact aP h
   |_=>exact aP h
  |_=>exact aP h
 |.comp fl gv ci cc c,e,h=>by
  cases e with
  |ListComp elt gens scope p =>
   cases gens with
   |nil=>exact aP h
   |cons g gr =>
    cases gr with
    |cons _ _=>obtain⟨tg,it,ifs,a⟩:=g;cases tg<;>exact aP h
    |nil =>
     obtain⟨tg,it,ifs,a⟩:=g;cases tg with
     |Name x px =>
      have h':(a==0&&xR S [x] scope fl gv&&!isSet it&&kI S ao ci it&&kC (S.cmp [x] fl gv) cc ifs&&kE (S.cmp [x] fl gv) c elt)=ak:=h;simp only[bw,gq]at h';obtain⟨⟨⟨⟨⟨h2,h3⟩,h4⟩,h5⟩,h6⟩,h7⟩:=h';have:=beq_iff_eq.mp h2;subst this;exact abK (jU Q h3) (λC s H fp pins σ=>aoT (jU Q h3) Q.nd) adU (okI (tt:=false) Q (λz=>nomatch z) ci it h5) (λC s H fp pins=>okC (Q.cmp h3 C s H fp pins) cc ifs h6) (λC s H fp pins=>dN (Q.cmp h3 C s H fp pins) c elt h7) (aeM h4)
     |_=>exact aP h
  |_=>exact aP h
 |.aaG n fl gv ci cc c,e,h=>by
  cases e with
  |ListComp elt gens scope p =>
   cases gens with
   |nil=>exact aP h
   |cons g gr =>
    cases gr with
    |cons _ _=>obtain⟨tg,it,ifs,a⟩:=g;cases tg<;>exact aP h
    |nil =>
     obtain⟨tg,it,ifs,a⟩:=g;cases tg with
     |Tuple es k tp =>
      have h':(S.calm&&a==0&&(match a2V es with
       |some xs=>xs.length==n&&xR S xs scope fl gv&&!isSet it&&kI S ak ci it&&kC (S.cmp xs fl gv) cc ifs&&kE (S.cmp xs fl gv) c elt
       |none=>ao))=ak:=h
      rw[bw,bw]at h';obtain⟨⟨h1,h2⟩,h'⟩:=h';have:=beq_iff_eq.mp h2;subst this;cases q:a2V es with
      |none=>rw[q]at h';exact aP h'
      |some xs =>
       rw[q]at h';simp only[bw,gq]at h';obtain⟨⟨⟨⟨⟨h0,h3⟩,h4⟩,h5⟩,h6⟩,h7⟩:=h';have:=beq_iff_eq.mp h0;subst this;exact abK (jU Q h3) (λC s H fp pins σ=>aD0 (jU Q h3) Q.nd (Q.cm h1) (aeL q)) (λd ds e=>(aiZ e).2) (okI (tt:=true) Q (λ_=>⟨Q.cm h1,_,_,_,rfl⟩) ci it h5) (λC s H fp pins=>okC (Q.cmp h3 C s H fp pins) cc ifs h6) (λC s H fp pins=>dN (Q.cmp h3 C s H fp pins) c elt h7) (aeM h4)
     |_=>exact aP h
  |_=>exact aP h
 |.dix a b,e,h=>by
  cases e with
  |Subscript x y p =>
   have h':(!isSlice y&&kE S a x&&kE S b y)=ak:=h;simp only[bw,gq]at h';exact aJC Q.hu (dN Q a x h'.1.2) (dN Q b y h'.2) (azZ h'.1.1)
  |_=>exact aP h
 |.din neg a b,e,h=>by
  cases e with
  |Compare x ops ys p =>
   match ops,ys,h with
   |[o'],[y],h =>
    have h':(o'==(if neg then yc.NotIn else yc.In)&&!behindInMarks o' y&&kE S a x&&kE S b y)=ak:=h;simp only[bw,gq]at h';exact ao4 (aqI Q.hu h'.1.1.1) (dN Q a x h'.1.2) (dN Q b y h'.2) h'.1.1.2
   |[],_,h=>exact aP h
   |_::_::_,_,h=>exact aP h
   |[_],[],h=>exact aP h
   |[_],_::_::_,h=>exact aP h
  |_=>exact aP h
 |.dgt c d f,e,h=>by
  cases e with
  |Call g as ks p =>
   cases g with
   |Attribute y n ap =>
    match as,ks,h with
    |[],_,h=>exact aP h
    |[_],_,h=>exact aP h
    |_::_::_::_,_,h=>exact aP h
    |[_,_],_::_,h=>exact aP h
    |[x,z],[],h =>
     have h':(n==("get":Str)&&eZ y&&ap.endLine==p.line&&!isStar x&&!isStar z&&kE S c y&&kE S d x&&kE S f z)=ak:=h;simp only[bw,gq]at h';obtain⟨⟨⟨⟨⟨⟨⟨h0,h1⟩,h2⟩,h3⟩,h4⟩,h5⟩,h6⟩,h7⟩:=h';have:=beq_iff_eq.mp h0;subst this
     have k2:wN S (.cons d (.cons f .nil)) [x,z]=ak:=by
      show(!isStar x&&kE S d x&&(!isStar z&&kE S f z&&ak))=ak;rw[h3,h4,h6,h7];rfl
     exact avV Q.hu (dN Q c y h5) (dN Q d x h6) (dN Q f z h7) ⟨lB h1,ac5 (X:=X) (cp:=p) k2 (show 2<30 by decide),h2,by rw[aK h3,aK h4];rfl⟩
   |_=>exact aP h
  |_=>exact aP h
 |.awN,e,h=>by
  cases e with
  |Dict ks vs p =>
   match ks,vs,h with
   |[],[],_=>exact avF
   |_::_,_,h=>exact aP h
   |[],_::_,h=>exact aP h
  |_=>exact aP h
 |.awO t a b,e,h=>by
  cases e with
  |Dict ks vs p =>
   match ks,vs,h with
   |[aj x],[y],h =>
    have h':(kE S a x&&kE S b y)=ak:=h;rw[bw]at h';exact awB Q.hu (dN Q a x h'.1) (dN Q b y h'.2)
   |[],_,h=>exact aP h
   |[aq],_,h=>exact aP h
   |some _::_::_,_,h=>exact aP h
   |none::_::_,_,h=>exact aP h
   |[aj _],[],h=>exact aP h
   |[aj _],_::_::_,h=>exact aP h
  |_=>exact aP h
 |.maxD k c d,e,h=>by
  cases e with
  |Call f as ks p =>
   cases f with
   |Name x q =>
    match as,ks,h with
    |[],_,h=>exact aP h
    |_::_::_,_,h=>exact aP h
    |[_],[],h=>exact aP h
    |[_],⟨aq,_,_⟩::_,h=>exact aP h
    |[_],⟨aj _,_,_⟩::_::_,h=>exact aP h
    |[y],[⟨aj n,z,kp⟩],h =>
     have h':(n==("default":Str)&&S.calm&&S.gv[k]?==aj ak&&ajA S k x&&!isStar y&&kE S c y&&kE S d z)=ak:=h;simp only[bw,gq]at h';obtain⟨⟨⟨⟨⟨⟨h0,h1⟩,h2⟩,h3⟩,h4⟩,h5⟩,h6⟩:=h';have:=beq_iff_eq.mp h0;subst this;obtain⟨g1,g2,g3,g4,g5⟩:=aqK Q h3 (beq_iff_eq.mp h2);exact aD8 (Q.cm h1) g1 g2 g3 (dN Q c y h5) (dN Q d z h6) g4 g5 (aK h4)
   |_=>exact aP h
  |_=>exact aP h
 |.eqd neg a b,e,h=>by
  cases e with
  |Compare x ops ys p =>
   match ops,ys,h with
   |[o'],[y],h =>
    have h':(o'==(if neg then yc.NotEq else yc.Eq)&&kE S a x&&kE S b y)=ak:=h;simp only[bw]at h'
    have hb:yq o' y=ao:=by
     have:=beq_iff_eq.mp h'.1.1;subst this;exact a5B _ (by cases neg<;>decide) (by cases neg<;>decide)
    exact ao4 (ajD Q.hu h'.1.1) (dN Q a x h'.1.2) (dN Q b y h'.2) hb
   |[],_,h=>exact aP h
   |_::_::_,_,h=>exact aP h
   |[_],[],h=>exact aP h
   |[_],_::_::_,h=>exact aP h
  |_=>exact aP h
theorem okA{X:Cx}{S:SI}{ex:aN->aX}(Q:j8 X S ex):∀(c:CEs)(es:List jf),wN S c es=ak->PA3 X es (mA S.gl X.K ex c)
 |.nil,es,h=>by
  cases es with
  |nil=>exact tM
  |cons _ _=>exact aP h
 |.cons c r,es,h=>by
  cases es with
  |nil=>exact aP h
  |cons x xs =>
   have h7:(!isStar x&&kE S c x&&wN S r xs)=ak:=h;simp only[bw,gq]at h7;exact dH (dN Q c x h7.1.2) (okA Q r xs h7.2) (aK h7.1.1)
theorem aA0{X:Cx}{S:SI}{ex:aN->aX}(Q:j8 X S ex):∀(c:CEs)(es:List jf)(p:Pos),wN S c es=ak->cF X (.BoolOp .And es p) (aDU S.gl X.K ex c)
 |.nil,es,p,h=>aqE
 |.cons c .nil,es,p,h=>by
  match es,h with
  |[],h=>exact aP h
  |[x],h =>
   have h7:(!isStar x&&kE S c x&&wN S .nil [])=ak:=h;simp only[bw,gq]at h7;exact azF (dN Q c x h7.1.2)
  |x::y::ys,h =>
   have h7:(!isStar x&&kE S c x&&wN S .nil (y::ys))=ak:=h;simp only[bw,gq]at h7;exact aP h7.2
 |.cons c (.cons c' r),es,p,h=>by
  match es,h with
  |[],h=>exact aP h
  |[x],h =>
   have h7:(!isStar x&&kE S c x&&wN S (.cons c' r) [])=ak:=h;simp only[bw,gq]at h7;exact aP h7.2
  |x::y::ys,h =>
   have h7:(!isStar x&&kE S c x&&wN S (.cons c' r) (y::ys))=ak:=h;simp only[bw,gq]at h7;exact aHY (dN Q c x h7.1.2) (aA0 Q (.cons c' r) (y::ys) p h7.2)
theorem aON{X:Cx}{S:SI}{ex:aN->aX}(Q:j8 X S ex):∀(c:CEs)(es:List jf)(p:Pos),wN S c es=ak->cF X (.BoolOp .Or es p) (mOr S.gl X.K ex c)
 |.nil,es,p,h=>aqE
 |.cons c .nil,es,p,h=>by
  match es,h with
  |[],h=>exact aP h
  |[x],h =>
   have h7:(!isStar x&&kE S c x&&wN S .nil [])=ak:=h;simp only[bw,gq]at h7;exact azF (dN Q c x h7.1.2)
  |x::y::ys,h =>
   have h7:(!isStar x&&kE S c x&&wN S .nil (y::ys))=ak:=h;simp only[bw,gq]at h7;exact aP h7.2
 |.cons c (.cons c' r),es,p,h=>by
  match es,h with
  |[],h=>exact aP h
  |[x],h =>
   have h7:(!isStar x&&kE S c x&&wN S (.cons c' r) [])=ak:=h;simp only[bw,gq]at h7;exact aP h7.2
  |x::y::ys,h =>
   have h7:(!isStar x&&kE S c x&&wN S (.cons c' r) (y::ys))=ak:=h;simp only[bw,gq]at h7;exact aNB (dN Q c x h7.1.2) (aON Q (.cons c' r) (y::ys) p h7.2)
theorem okT{X:Cx}{S:SI}{ex:aN->aX}(Q:j8 X S ex):∀(c:CT)(e:jf),kT S c e=ak->PT3 X e (mT S.gl X.K ex c)
 |.cmp o a b,e,h=>by
  cases e with
  |Compare x ops ys p =>
   match ops,ys,h with
   |[o'],[y],h =>
    have h':(o==o'&&!behindInMarks o' y&&kE S a x&&kE S b y)=ak:=h;simp only[bw,gq]at h';have:=beq_iff_eq.mp h'.1.1.1;subst this;exact ao5 (wO Q.hu) (dN Q a x h'.1.2) (dN Q b y h'.2) h'.1.1.2
   |[],_,h=>exact aP h
   |_::_::_,_,h=>exact aP h
   |[_],[],h=>exact aP h
   |[_],_::_::_,h=>exact aP h
  |_=>exact aP h
 |.chain o o' a b c,e,h=>by
  cases e with
  |Compare x ops ys p =>
   match ops,ys,h with
   |[p1,p2],[y,z],h =>
    have h':(o==p1&&o'==p2&&!lastMarks [p1,p2] [y,z]&&kE S a x&&kE S b y&&kE S c z)=ak:=h;simp only[bw,gq]at h';have e1:=beq_iff_eq.mp h'.1.1.1.1.1;have e2:=beq_iff_eq.mp h'.1.1.1.1.2;subst e1;subst e2;exact auX (wO Q.hu) (wO Q.hu) (dN Q a x h'.1.1.2) (dN Q b y h'.1.2) (dN Q c z h'.2) h'.1.1.1.2
   |[],_,h=>exact aP h
   |[_],_,h=>exact aP h
   |_::_::_::_,_,h=>exact aP h
   |[_,_],[],h=>exact aP h
   |[_,_],[_],h=>exact aP h
   |[_,_],_::_::_::_,h=>exact aP h
  |_=>exact aP h
 |.not t,e,h=>by
  cases e with
  |UnaryOp op x p =>
   cases op with
   |Not=>exact aHX (okT Q t x h)
   |_=>exact aP h
  |_=>exact aP h
 |.and ts,e,h=>by
  cases e with
  |BoolOp op xs p =>
   cases op with
   |And=>exact PW.pt (aqL Q ts xs p h)
   |Or=>exact aP h
  |_=>exact aP h
 |.or ts,e,h=>by
  cases e with
  |BoolOp op xs p =>
   cases op with
   |Or=>exact PW.pt (aA2 Q ts xs p h)
   |And=>exact aP h
  |_=>exact aP h
 |.din neg a b,e,h=>by
  cases e with
  |Compare x ops ys p =>
   match ops,ys,h with
   |[o'],[y],h =>
    have h':(o'==(if neg then yc.NotIn else yc.In)&&!behindInMarks o' y&&kE S a x&&kE S b y)=ak:=h;simp only[bw,gq]at h';exact ao5 (aqI Q.hu h'.1.1.1) (dN Q a x h'.1.2) (dN Q b y h'.2) h'.1.1.2
   |[],_,h=>exact aP h
   |_::_::_,_,h=>exact aP h
   |[_],[],h=>exact aP h
   |[_],_::_::_,h=>exact aP h
  |_=>exact aP h
 |.eqd neg a b,e,h=>by
  cases e with
  |Compare x ops ys p =>
   match ops,ys,h with
   |[o'],[y],h =>
    have h':(o'==(if neg then yc.NotEq else yc.Eq)&&kE S a x&&kE S b y)=ak:=h;simp only[bw]at h'
    have hb:yq o' y=ao:=by
     have:=beq_iff_eq.mp h'.1.1;subst this;exact a5B _ (by cases neg<;>decide) (by cases neg<;>decide)
    exact ao5 (ajD Q.hu h'.1.1) (dN Q a x h'.1.2) (dN Q b y h'.2) hb
   |[],_,h=>exact aP h
   |_::_::_,_,h=>exact aP h
   |[_],[],h=>exact aP h
   |[_],_::_::_,h=>exact aP h
  |_=>exact aP h
 |.val c,e,h=>by
  have h':(plainT e&&kE S c e)=ak:=h;rw[bw]at h';exact aHT (dN Q c e h'.2) (aE0 h'.1)
theorem aqL{X:Cx}{S:SI}{ex:aN->aX}(Q:j8 X S ex):∀(c:CTs)(es:List jf)(p:Pos),kTs S c es=ak->PW3 X (.BoolOp .And es p) (aqA S.gl X.K ex c)
 |.nil,es,p,h=>λ_ _ _ _ _ _ _ ⟨_,_,_,_,_,z,_⟩=>z.elim
 |.cons c .nil,es,p,h=>by
  match es,h with
  |[],h=>exact aP h
  |[x],h =>
   have h7:(kT S c x&&kTs S .nil [])=ak:=h;simp only[bw]at h7;exact aC0 (okT Q c x h7.1)
  |x::y::ys,h =>
   have h7:(kT S c x&&kTs S .nil (y::ys))=ak:=h;simp only[bw]at h7;exact aP h7.2
 |.cons c (.cons c' r),es,p,h=>by
  match es,h with
  |[],h=>exact aP h
  |[x],h =>
   have h7:(kT S c x&&kTs S (.cons c' r) [])=ak:=h;simp only[bw]at h7;exact aP h7.2
  |x::y::ys,h =>
   have h7:(kT S c x&&kTs S (.cons c' r) (y::ys))=ak:=h;simp only[bw]at h7;exact aHW (okT Q c x h7.1) (aqL Q (.cons c' r) (y::ys) p h7.2)
theorem aA2{X:Cx}{S:SI}{ex:aN->aX}(Q:j8 X S ex):∀(c:CTs)(es:List jf)(p:Pos),kTs S c es=ak->PW3 X (.BoolOp .Or es p) (aDV S.gl X.K ex c)
 |.nil,es,p,h=>λ_ _ _ _ _ _ _ ⟨_,_,_,_,_,z,_⟩=>z.elim
 |.cons c .nil,es,p,h=>by
  match es,h with
  |[],h=>exact aP h
  |[x],h =>
   have h7:(kT S c x&&kTs S .nil [])=ak:=h;simp only[bw]at h7;exact aHV (okT Q c x h7.1)
  |x::y::ys,h =>
   have h7:(kT S c x&&kTs S .nil (y::ys))=ak:=h;simp only[bw]at h7;exact aP h7.2
 |.cons c (.cons c' r),es,p,h=>by
  match es,h with
  |[],h=>exact aP h
  |[x],h =>
   have h7:(kT S c x&&kTs S (.cons c' r) [])=ak:=h;simp only[bw]at h7;exact aP h7.2
  |x::y::ys,h =>
   have h7:(kT S c x&&kTs S (.cons c' r) (y::ys))=ak:=h;simp only[bw]at h7;exact aNA (okT Q c x h7.1) (aA2 Q (.cons c' r) (y::ys) p h7.2)
theorem okO{X:Cx}{S:SI}{ex:aN->aX}(Q:j8 X S ex):∀(c:CO)(e:Option jf),kO S c e=ak->PO3 X e (mO S.gl X.K ex c)
 |.none,e,h=>by
  cases e with
  |none=>exact aC5
  |some _=>exact aP h
 |.some c,e,h=>by
  cases e with
  |none=>exact aP h
  |some x=>exact aC6 (dN Q c x h)
theorem okI{X:Cx}{S:SI}{ex:aN->aX}(Q:j8 X S ex){tg:jf}{tt:Bool}(htt:tt=ak->X.calm=ak/\∃es kt pt,tg=.Tuple es kt pt):∀(c:CI)(e:jf),kI S tt c e=ak->PI3 X tg e (mI S.gl X.K ex c)
 |.any c,e,h=>aIR (dN Q c e h)
 |.ac3 c,e,h=>by
  cases e with
  |Call f as ks p =>
   cases f with
   |Name r q =>
    cases as with
    |nil=>exact aP h
    |cons y yr =>
     cases yr with
     |cons _ _=>exact aP h
     |nil =>
      cases ks with
      |cons _ _=>exact aP h
      |nil =>
       have h':(r==("range":Str)&&oO S&&!isStar y&&kE S c y)=ak:=h;simp only[bw,gq]at h';obtain⟨⟨⟨h1,h2⟩,h3⟩,h4⟩:=h';have:=beq_iff_eq.mp h1;subst this;obtain⟨g1,g2⟩:=a01 Q h2;exact aCV g1 g2 (dH (dN Q c y h4) tM (aK h3)) (aK h3)
   |_=>exact aP h
  |_=>exact aP h
 |.ah7 a b c,e,h=>by
  cases e with
  |Call f as ks p =>
   cases f with
   |Name r q =>
    match as,ks,h with
    |[],_,h=>exact aP h
    |[_],_,h=>exact aP h
    |[_,_],_,h=>exact aP h
    |_::_::_::_::_,_,h=>exact aP h
    |[_,_,_],_::_,h=>exact aP h
    |[y,z,v],[],h =>
     have h':(r==("range":Str)&&oO S&&!isStar y&&!isStar z&&!isStar v&&kE S a y&&kE S b z&&kE S c v)=ak:=h;simp only[bw,gq]at h';obtain⟨⟨⟨⟨⟨⟨⟨h1,h2⟩,h3⟩,h4⟩,h5⟩,h6⟩,h7⟩,h8⟩:=h';have:=beq_iff_eq.mp h1;subst this;obtain⟨g1,g2⟩:=a01 Q h2;exact aDE g1 g2 (dH (dN Q a y h6) (dH (dN Q b z h7) (dH (dN Q c v h8) tM (aK h5)) (aK h4)) (aK h3)) (by rw[aK h3,aK h4,aK h5];rfl) (by rw[aK h4,aK h5];rfl)
   |_=>exact aP h
  |_=>exact aP h
 |.zip a b,e,h=>by
  cases e with
  |Call f as ks p =>
   cases f with
   |Name r q =>
    match as,ks,h with
    |[],_,h=>exact aP h
    |[_],_,h=>exact aP h
    |_::_::_::_,_,h=>exact aP h
    |[_,_],_::_,h=>exact aP h
    |[y,z],[],h =>
     have h':(tt&&r==("zip":Str)&&aeK S&&!isStar y&&!isStar z&&kE S a y&&kE S b z)=ak:=h;simp only[bw,gq]at h';obtain⟨⟨⟨⟨⟨⟨h0,h1⟩,h2⟩,h3⟩,h4⟩,h5⟩,h6⟩:=h';have:=beq_iff_eq.mp h1;subst this;obtain⟨g1,g2,g3⟩:=aqJ Q h2;obtain⟨hc,es,kt,pt,rfl⟩:=htt h0;exact aJ9 hc g1 g2 g3 (dH (dN Q a y h5) (dH (dN Q b z h6) tM (aK h4)) (aK h3)) (by rw[aK h3,aK h4];rfl) (aK h4)
   |_=>exact aP h
  |_=>exact aP h
 |.items c,e,h=>by
  have h':(tt&&(match a00 e with
   |some (y,n,l)=>l&&n==("items":Str)&&eZ y&&kE S c y
   |none=>ao))=ak:=h
  rw[bw]at h';obtain⟨h0,h4⟩:=h';cases q2:a00 e with
  |none=>rw[q2]at h4;exact aP h4
  |some z =>
   obtain⟨y,n,l⟩:=z;rw[q2]at h4;simp only[bw]at h4;obtain⟨⟨⟨h5,h6⟩,h7⟩,h8⟩:=h4;have e6:=beq_iff_eq.mp h6;subst e6;obtain⟨ap,cp,rfl,rfl⟩:=a6M q2;obtain⟨hc,es,kt,pt,rfl⟩:=htt h0;exact awE hc (dN Q c y h8) (lB h7) h5
 |.enu c,e,h=>by
  have h':(tt&&(match rZ e with
   |some (r,y)=>r==("enumerate":Str)&&a6L S&&!isStar y&&kE S c y
   |none=>ao))=ak:=h
  rw[bw]at h';obtain⟨h0,h4⟩:=h';cases q2:rZ e with
  |none=>rw[q2]at h4;exact aP h4
  |some z =>
   obtain⟨r,y⟩:=z;rw[q2]at h4;simp only[bw,gq]at h4;obtain⟨⟨⟨h5,h6⟩,h7⟩,h8⟩:=h4;have e5:=beq_iff_eq.mp h5;subst e5;obtain⟨p,pos,rfl⟩:=a6N q2;obtain⟨g1,g2,g3⟩:=ajE Q h6;obtain⟨hc,es,kt,pt,rfl⟩:=htt h0;exact aE2 (aj7 hc g1 g2 g3 (dH (dN Q c y h8) tM (aK h7)) (aK h7))
theorem okD{X:Cx}{S:SI}{ex:aN->aX}(Q:j8 X S ex){pos:Pos}:∀(cs:CEs)(ks:List Str)(keys:List (Option jf))(vs:List jf),wN S cs vs=ak->aqD ks keys=ak->keys.length=vs.length->PDs X pos keys vs ks (mA S.gl X.K ex cs)
 |.nil,ks,keys,vs,h,h2,h3=>by
  cases vs with
  |cons _ _=>exact aP h
  |nil =>
  cases keys with
  |cons _ _=>cases h3
  |nil =>
  cases ks with
  |cons _ _=>exact aP h2
  |nil=>exact awG
 |.cons c cs,ks,keys,vs,h,h2,h3=>by
  cases vs with
  |nil=>exact aP h
  |cons v vs =>
  have h':(!isStar v&&kE S c v&&wN S cs vs)=ak:=h;simp only[bw]at h';cases keys with
  |nil=>cases h3
  |cons ke keys =>
  cases ks with
  |nil=>exact aP h2
  |cons k ks =>
  cases ke with
  |none=>exact aP h2
  |some e =>
  cases e with
  |Constant cc j p =>
   cases cc with
   |str k' =>
    have h2':(k==k'&&aqD ks keys)=ak:=h2;rw[bw]at h2';have e0:=beq_iff_eq.mp h2'.1;subst e0;exact apW (dN Q c v h'.1.2) (okD Q cs ks keys vs h'.2 h2'.2 (Nat.succ.inj h3))
   |_=>exact aP h2
  |_=>exact aP h2
theorem okC{X:Cx}{S:SI}(Q:j8 X S NoX):∀(c:CC)(es:List jf),kC S c es=ak->alB X es (mC S.gl X.K c)
 |.none,es,h=>by
  cases es with
  |nil=>exact avJ
  |cons _ _=>exact aP h
 |.some t,es,h=>by
  match es,h with
  |[],h=>exact aP h
  |[x],h=>exact avK (okT Q t x h)
  |_::_::_,h=>exact aP h
end
end L4
namespace L4
open PySem PySem.Spec PyProof.Rows L2
inductive CTg where
 |nm (i:Nat)|tup (is:List Nat)
mutual
inductive CS where
 |ret (e:CE)|expr (e:CE)|ifs (t:CT) (a b:CB)|set (i:Nat) (e:CE)|awS (o i e:CE)
 |raise (k:Nat) (e:CE) (es:CEs)|awT (k i:Nat) (b h:CB)|pass
 |setC (i:Nat) (fl gv:List Bool) (ci:CI) (cc:CC) (e:CE)|a1V (ci:CI) (tg:CTg) (b:CB)|awU (ci:CI) (tg:CTg) (b:CB)
 |awV (o i e:CE)|awW (o i e:CE)|hid (i:Nat) (nm:Str) (s:CS)
inductive CB where
 |nil|cons (s:CS) (r:CB)
end
noncomputable def aA3:bI:=λ_ _ _=>False
noncomputable abbrev SI.han(S:SI):SI:={S with calm:=false,need:=false}
noncomputable abbrev SI.hid(S:SI)(i:Nat)(nm:Str):SI:={S with N:=S.N.set i nm,fl:=S.fl.set i ao,lc:=S.lc.set i ao,ce:=S.ce.set i ao}
noncomputable def mIS(T:List (Str×GT))(K:Fg)(ex:aN->aX):CI->TI3
 |.any e=>abM (mE T K ex e)
 |.ac3 e=>uT (aA (mE T K ex e) aC)
 |.zip a b=>a2T (aA (mE T K ex a) (aA (mE T K ex b) aC))
 |.ah7 a b c=>a1R (aA (mE T K ex a) (aA (mE T K ex b) (aA (mE T K ex c) aC)))
 |.items e=>mL ak (mE T K ex e)
 |.enu e=>a1T (aA (mE T K ex e) aC)
noncomputable def mIF(T:List (Str×GT))(K:Fg)(ex:aN->aX):CI->TI3
 |.items e=>mL ao (mE T K ex e)
 |_=>λ_ _ _=>False
noncomputable def mG:CTg->TG3
 |.nm i=>nO i
 |.tup is=>a2S is
noncomputable def awX(T:List (Str×GT))(ex:aN->aX)(k:Nat)(t:nH):bI:=match T[k]? with
 |some (_,.cls a)=>rO ex a t
 |_=>aA3
noncomputable def awY(T:List (Str×GT))(K:Fg)(k i:Nat)(tb:(aN->aX)->bI)(th:bI):bI:=match T[k]? with
 |some (_,.cls a)=>adN K a i tb th
 |_=>aA3
noncomputable def aaJ(S:SI)(k:Nat)(x:Str):Bool:=match S.gl[k]? with
 |some (z,.cls _)=>z==x
 |_=>ao
mutual
noncomputable def mS(T:List (Str×GT))(K:Fg)(ex:aN->aX):CS->bI
 |.ret e=>bL (mE T K ex e)
 |.expr e=>cZ (mE T K ex e)
 |.ifs t a b=>cG (mT T K ex t) (mB T K ex a) (mB T K ex b)
 |.set i e=>bZ i (mE T K ex e)
 |.awS o i e=>abD (mE T K ex o) (mE T K ex i) (mE T K ex e)
 |.raise k e es=>awX T ex k (aA (mE T K ex e) (mA T K ex es))
 |.awT k i b h=>awY T K k i (λEX2=>mB T K EX2 b) (mB T K NoX h)
 |.setC i _ _ ci cc e=>bZ i (uU (mI T K ex ci) (mC T K cc) (mE T K NoX e))
 |.a1V ci tg b=>jT (mIS T K ex ci) (mG tg) (mB T K ex b)
 |.awU ci tg b=>a4Q (mIF T K ex ci) (mG tg) (mB T K ex b)
 |.awV o i e=>abR (mE T K ex o) (mE T K ex i) (mE T K ex e)
 |.awW o i e=>ac1 (mE T K ex o) (mE T K ex i) (mE T K ex e)
 |.hid i _ s=>a6D i (mS T K (λρ=>ex (jQ ρ i)) s)
 |.pass=>bO
noncomputable def mB(T:List (Str×GT))(K:Fg)(ex:aN->aX):CB->bI
 |.nil=>bO
 |.cons s .nil=>mS T K ex s
 |.cons s (.cons s' r)=>aR (mS T K ex s) (mB T K ex (.cons s' r))
end
noncomputable def isTup:jf->Bool
 |.Tuple ..=>ak
 |_=>ao
noncomputable def lW:jf->Bool
 |.ListComp ..=>ak
 |.SetComp ..=>ak
 |.DictComp ..=>ak
 |_=>ao
noncomputable def kTg(S:SI):CTg->jf->Bool
 |.nm i,.Name x _=>S.N[i]?==aj x&&S.fl[i]?==aj ak
 |.tup is,.Tuple es _ _=>kNs S is es
 |_,_=>ao
where
 kNs (S:SI):List Nat->List jf->Bool
 |[],[]=>ak
 |i::is,.Name x _::es=>S.N[i]?==aj x&&S.fl[i]?==aj ak&&kNs S is es
 |_,_=>ao
noncomputable def aqM(S:SI):CTg->Bool
 |.nm _=>ak
 |.tup _=>S.calm
mutual
noncomputable def kS(S:SI)(lv:Nat):CS->kj->Bool
 |.ret e,.Return (aj x) _=>kE S e x
 |.expr e,.Expr x _=>!lW x&&kE S e x
 |.ifs t a b,.If x y z _=>kT S t x&&kB S lv a y&&kB S lv b z
 |.set i e,.Assign [.Name x _] y _=>S.N[i]?==aj x&&S.fl[i]?==aj ak&&!lW y&&kE S e y
 |.awS o i e,.Assign [.Subscript x y _] z _=>!isSlice y&&!lW z&&kE S o x&&kE S i y&&kE S e z
 |.raise k e es,.Raise (aj (.Call (.Name x _) (y::ys) [] _)) aq _=>lv==0&&S.calm&&!isStar y&&kE S e y&&wN S es ys&&S.gv[k]?==aj ak&&aaJ S k x
 |.awT k i b h,.Try y [.ExceptHandler (aj (.Name x _)) (aj n) (z::zs) _] [] [] _=>lv==0&&S.calm&&S.N[i]?==aj n&&S.lc[i]?==aj ak&&kB S 1 b y&&kB S.han 2 h (z::zs)&&S.gv[k]?==aj ak&&aaJ S k x
 |.setC i fl gv ci cc e,.Assign [.Name y _] (.ListComp elt [⟨.Name x _,iter,ifs,a⟩] scope _) _=>S.N[i]?==aj y&&S.fl[i]?==aj ak&&a==0&&xR S [x] scope fl gv&&!isSet iter&&kI S ao ci iter&&kC (S.cmp [x] fl gv) cc ifs&&kE (S.cmp [x] fl gv) e elt
 |.awV o i e,.Assign [.Subscript x y _] z _=>!isSlice y&&!lW z&&kE S o x&&kE S i y&&kE S e z
 |.awW o i e,.Assign [.Subscript x y _] z _=>!isSlice y&&!lW z&&kE S o x&&kE S i y&&kE S e z
 |.hid i nm s,st=>!S.N.contains nm&&kS (S.hid i nm) lv s st
 |.a1V ci tg b,.For tgt iter body [] _=>lv !=1&&aqM S tg&&!isSet iter&&kTg S tg tgt&&kI S (isTup tgt&&S.calm) ci iter&&kB S lv b body
 |.awU ci tg b,.For tgt iter body [] _=>lv !=1&&aqM S tg&&!isSet iter&&kTg S tg tgt&&kI S (isTup tgt&&S.calm) ci iter&&kB S lv b body
 |.pass,.Pass _=>ak
 |_,_=>ao
noncomputable def kB(S:SI)(lv:Nat):CB->List kj->Bool
 |.nil,[]=>ak
 |.cons s r,x::xs=>kS S lv s x&&kB S lv r xs
 |_,_=>ao
end
structure a02(X:Cx)(S:SI)(ex:aN->aX)(lv:Nat):Prop where
 si:j8 X S ex
 loc:∀(i:Nat)(x:Str),S.N[i]?=aj x->S.fl[i]?=aj ak->Loc X.env.scope x
 lcl:∀(i:Nat)(x:Str),S.N[i]?=aj x->S.lc[i]?=aj ak->X.env.kindOf x=aj .local
 fn:∀(i:Nat)(x:Str),S.N[i]?=aj x->S.fl[i]?=aj ak->X.fn x=ak
 cls:∀(k:Nat)(x:Str)(a:bx),S.gl[k]?=aj (x,.cls a)->S.gv[k]?=aj ak->yt X.K a BMv "ValueError.__new__"=ak/\(vf X.K a).isSome=ak/\a0p X.K (.ref a)=aj (.type "type")/\uf X.K (.ref a) (.type "BaseException")=aj ak
 l0:lv≠1->PassesOwn (fj X.prog X.w) X.A X.env X.xe
 rz:lv=0->S.calm=ak->Thr X ex
 stk:X.stack=X.env::X.outer
 frm:X.env.frame=aj X.env.locals
variable{n:Nat}{env:Env}
theorem aeN{t:Option jf}(h:lW e=ao):a0z e t n env=pure ao:=by
 cases e<;>first|rfl|exact absurd (show ak=ao from h) (by decide)
variable{p:Pos}
theorem awZ(h:isSlice i=ao):∀v,assign (.Subscript o i p) env v=(do
   let ov ←a0g [v] (eval o env)
   let iv ←a0g [v,ov] (eval i env)
   standAt p
   a0g [v,ov,iv] (setItem ov iv v)
   release [v,ov,iv] []):=by
 cases i<;>first|(intro _;rfl)|exact absurd (show ak=ao from h) (by decide)
theorem ax0:swappedStores [.Subscript o i p] e env=pure aq:=by cases e<;>rfl
theorem ax1(h:lW e=ao):swapsWithSole [.Subscript o i p] e n env=pure ao:=by
 show a0z e (aj (.Subscript o i p)) n env=pure ao;exact aeN h
variable{ex:aN->aX}{lv:Nat}
theorem a02.tr(Q:a02 X S ex lv)(pn:List (bx×Obj))(EX:aN->aX):a02 (av8 X pn EX) S EX 1 where
 si:=⟨Q.si.N,Q.si.nd,Q.si.vis,Q.si.ce,λk x g h=>by
  obtain⟨h1,h2,h3,h4⟩:=Q.si.gm k x g h;refine⟨h1,h2,h3,?_⟩;cases g<;>exact h4,Q.si.hu,Q.si.cm,aNJ pn EX,Q.si.nk⟩
 loc:=Q.loc
 lcl:=Q.lcl
 fn:=Q.fn
 cls:=Q.cls
 l0:=λz=>absurd rfl z
 rz:=λz=>absurd z (by decide)
 stk:=Q.stk
 frm:=Q.frm
theorem a02.ha{S:SI}(Q:a02 X S ex lv)(x:bx):a02 (al8 X x) S.han NoX 2 where
 si:=⟨Q.si.N,Q.si.nd,Q.si.vis,Q.si.ce,λk y g h=>by
  obtain⟨h1,h2,h3,h4⟩:=Q.si.gm k y g h;refine⟨h1,h2,h3,?_⟩;cases g with
  |fn sp n qt =>
   intro z;have hq:qt=ak:=z.resolve_right (show ¬ (ao=ak) by decide);subst hq;obtain⟨k,f,fd,ps,F,hr,r⟩:=h4 (.inl rfl);exact⟨k,f,fd,ps,F,⟨(λz=>nomatch z),hr.dp,hr.un⟩,r⟩
  |kl C sp dd=>exact λz=>nomatch z
  |me C m sp dd=>exact λz=>nomatch z
  |clo c sp=>exact λz=>nomatch z
  |fnP sp n=>exact λz=>nomatch z
  |_=>exact h4,Q.si.hu,λz=>absurd (show ao=ak from z) (by decide),aqH,λz=>nomatch z⟩
 loc:=Q.loc
 lcl:=Q.lcl
 fn:=Q.fn
 cls:=Q.cls
 l0:=λ_=>PassesOwn.never
 rz:=λz=>absurd z (by decide)
 stk:=Q.stk
 frm:=Q.frm
variable{x:Str}
set_option tactic.hygienic true in
theorem aeO{S:SI}{k:Nat}(h:aaJ S k x=ak):∃a,S.gl[k]?=aj (x,.cls a):=by
 unfold aaJ at h;split at h
 .rename_i z a hg;have:=beq_iff_eq.mp h;subst this;exact⟨a,hg⟩
 .exact aP h
theorem ax2{k:Nat}{t:nH}(h:T[k]?=aj (x,.cls a)):awX T ex k t=rO ex a t:=by unfold awX;rw[h]
variable{i:Nat}
theorem ax3{K:Fg}{k:Nat}(h:T[k]?=aj (x,.cls a)):awY T K k i tb th=adN K a i tb th:=by unfold awY;rw[h]
theorem aqN{X:Cx}{S:SI}(Q:a02 X S ex lv){k:Nat}{pos:Pos}(h:kS S lv (.raise k e es) (.Raise (aj (.Call (.Name x np) (y::ys) [] cp)) aq pos)=ak) :
  PS3 X (.Raise (aj (.Call (.Name x np) (y::ys) [] cp)) aq pos) (awX S.gl ex k (aA (mE S.gl X.K ex e) (mA S.gl X.K ex es))):=by
 have h':(lv==0&&S.calm&&!isStar y&&kE S e y&&wN S es ys&&S.gv[k]?==aj ak&&aaJ S k x)=ak:=h;simp only[bw,gq]at h';obtain⟨⟨⟨⟨⟨⟨h0,hcm⟩,h1⟩,h2⟩,h3⟩,hv⟩,h⟩:=h';have hv:=beq_iff_eq.mp hv;obtain⟨a,hg⟩:=aeO h;rw[ax2 hg];have l1:=Q.si.cm hcm;have l2:=Q.rz (beq_iff_eq.mp h0) hcm;obtain⟨g1,g2,g3,g4,g5⟩:=Q.si.gl _ _ _ hg hv;exact av6 l1 PySem.F.excBase_ValueError (by decide) PySem.F.excBase_ValueError g1 g4 (Q.cls _ _ _ hg hv).1 l2 (dH (dN Q.si e y h2) (okA Q.si es ys h3) (aK h1)) g2 (aK h1) (uZ h3)
theorem aqO{ex:aN->aX}{lv:Nat}(Q:a02 X S ex lv):∀{is:List Nat}{es:List jf},kTg.kNs S is es=ak->Two (avN X) es is
 |[],[],_=>.nil
 |[],_::_,h=>by exact aP h
 |_::_,[],h=>by exact aP h
 |i::is,e::es,h=>by
  cases e with
  |Name x p =>
   have h':(S.N[i]?==aj x&&S.fl[i]?==aj ak&&kTg.kNs S is es)=ak:=h;simp only[bw]at h';have e1:=beq_iff_eq.mp h'.1.1;exact .cons ⟨x,p,rfl,by rw[Q.si.N];exact e1,Q.loc i x e1 (beq_iff_eq.mp h'.1.2),.inl (Q.fn i x e1 (beq_iff_eq.mp h'.1.2))⟩ (aqO Q h'.2)
  |_=>exact aP h
theorem aA5(Q:a02 X S ex lv):∀{c:CTg}{e:jf},aqM S c=ak->kTg S c e=ak->PG3 X e (mG c)
 |.nm i,e,_,h=>by
  cases e with
  |Name x p =>
   have h':(S.N[i]?==aj x&&S.fl[i]?==aj ak)=ak:=h;simp only[bw]at h';have e1:=beq_iff_eq.mp h'.1;exact aCY Q.si.nd (by rw[Q.si.N];exact e1) (Q.loc i x e1 (beq_iff_eq.mp h'.2)) (.inl (Q.fn i x e1 (beq_iff_eq.mp h'.2)))
  |_=>exact aP h
 |.tup is,e,hc,h=>by
  cases e with
  |Tuple es k p=>exact aIX Q.si.nd (Q.si.cm hc) (aqO Q h)
  |_=>exact aP h
variable{tt:Bool}
theorem aOO{X:Cx}{S:SI}(Q:j8 X S ex)(htt:tt=ak->X.calm=ak/\∃es kt pt,tg=.Tuple es kt pt):∀(c:CI)(e:jf),kI S tt c e=ak->PIS X tg e (mIS S.gl X.K ex c)
 |.any c,e,h=>aD1 (dN Q c e h)
 |.ac3 c,e,h=>by
  cases e with
  |Call f as ks p =>
   cases f with
   |Name r q =>
    cases as with
    |nil=>exact aP h
    |cons y yr =>
     cases yr with
     |cons _ _=>exact aP h
     |nil =>
      cases ks with
      |cons _ _=>exact aP h
      |nil =>
       have h':(r==("range":Str)&&oO S&&!isStar y&&kE S c y)=ak:=h;simp only[bw,gq]at h';obtain⟨⟨⟨h1,h2⟩,h3⟩,h4⟩:=h';have:=beq_iff_eq.mp h1;subst this;obtain⟨g1,g2⟩:=a01 Q h2;exact avP g1 g2 (dH (dN Q c y h4) tM (aK h3)) (aK h3)
   |_=>exact aP h
  |_=>exact aP h
 |.ah7 a b c,e,h=>by
  cases e with
  |Call f as ks p =>
   cases f with
   |Name r q =>
    match as,ks,h with
    |[],_,h=>exact aP h
    |[_],_,h=>exact aP h
    |[_,_],_,h=>exact aP h
    |_::_::_::_::_,_,h=>exact aP h
    |[_,_,_],_::_,h=>exact aP h
    |[y,z,v],[],h =>
     have h':(r==("range":Str)&&oO S&&!isStar y&&!isStar z&&!isStar v&&kE S a y&&kE S b z&&kE S c v)=ak:=h;simp only[bw,gq]at h';obtain⟨⟨⟨⟨⟨⟨⟨h1,h2⟩,h3⟩,h4⟩,h5⟩,h6⟩,h7⟩,h8⟩:=h';have:=beq_iff_eq.mp h1;subst this;obtain⟨g1,g2⟩:=a01 Q h2;exact avY g1 g2 (dH (dN Q a y h6) (dH (dN Q b z h7) (dH (dN Q c v h8) tM (aK h5)) (aK h4)) (aK h3)) (by rw[aK h3,aK h4,aK h5];rfl) (by rw[aK h4,aK h5];rfl)
   |_=>exact aP h
  |_=>exact aP h
 |.zip a b,e,h=>by
  cases e with
  |Call f as ks p =>
   cases f with
   |Name r q =>
    match as,ks,h with
    |[],_,h=>exact aP h
    |[_],_,h=>exact aP h
    |_::_::_::_,_,h=>exact aP h
    |[_,_],_::_,h=>exact aP h
    |[y,z],[],h =>
     have h':(tt&&r==("zip":Str)&&aeK S&&!isStar y&&!isStar z&&kE S a y&&kE S b z)=ak:=h;simp only[bw,gq]at h';obtain⟨⟨⟨⟨⟨⟨h0,h1⟩,h2⟩,h3⟩,h4⟩,h5⟩,h6⟩:=h';have:=beq_iff_eq.mp h1;subst this;obtain⟨g1,g2,g3⟩:=aqJ Q h2;obtain⟨hc,es,kt,pt,rfl⟩:=htt h0;exact aD7 hc g1 g2 g3 (dH (dN Q a y h5) (dH (dN Q b z h6) tM (aK h4)) (aK h3)) (by rw[aK h3,aK h4];rfl) (aK h4)
   |_=>exact aP h
  |_=>exact aP h
 |.items c,e,h=>by
  have h':(tt&&(match a00 e with
   |some (y,n,l)=>l&&n==("items":Str)&&eZ y&&kE S c y
   |none=>ao))=ak:=h
  rw[bw]at h';obtain⟨h0,h4⟩:=h';cases q2:a00 e with
  |none=>rw[q2]at h4;exact aP h4
  |some z =>
   obtain⟨y,n,l⟩:=z;rw[q2]at h4;simp only[bw]at h4;obtain⟨⟨⟨h5,h6⟩,h7⟩,h8⟩:=h4;have e6:=beq_iff_eq.mp h6;subst e6;obtain⟨ap,cp,rfl,rfl⟩:=a6M q2;obtain⟨hc,es,kt,pt,rfl⟩:=htt h0;exact apP hc (dN Q c y h8) (lB h7) h5
 |.enu c,e,h=>by
  have h':(tt&&(match rZ e with
   |some (r,y)=>r==("enumerate":Str)&&a6L S&&!isStar y&&kE S c y
   |none=>ao))=ak:=h
  rw[bw]at h';obtain⟨h0,h4⟩:=h';cases q2:rZ e with
  |none=>rw[q2]at h4;exact aP h4
  |some z =>
   obtain⟨r,y⟩:=z;rw[q2]at h4;simp only[bw,gq]at h4;obtain⟨⟨⟨h5,h6⟩,h7⟩,h8⟩:=h4;have e5:=beq_iff_eq.mp h5;subst e5;obtain⟨p,pos,rfl⟩:=a6N q2;obtain⟨g1,g2,g3⟩:=ajE Q h6;obtain⟨hc,es,kt,pt,rfl⟩:=htt h0;exact aj7 hc g1 g2 g3 (dH (dN Q c y h8) tM (aK h7)) (aK h7)
theorem a6O:PIF X tg e (λ_ _ _=>False):=λ_ _ _ _ _ _ ⟨_,_,_,_,_,z,_⟩=>z.elim
theorem aOP{X:Cx}{S:SI}(Q:j8 X S ex)(htt:tt=ak->X.calm=ak/\∃es kt pt,tg=.Tuple es kt pt):∀(c:CI)(e:jf),kI S tt c e=ak->PIF X tg e (mIF S.gl X.K ex c)
 |.any c,e,h=>a6O
 |.ac3 c,e,h=>a6O
 |.ah7 a b c,e,h=>a6O
 |.zip a b,e,h=>a6O
 |.enu a,e,h=>a6O
 |.items c,e,h=>by
  have h':(tt&&(match a00 e with
   |some (y,n,l)=>l&&n==("items":Str)&&eZ y&&kE S c y
   |none=>ao))=ak:=h
  rw[bw]at h';obtain⟨h0,h4⟩:=h';cases q2:a00 e with
  |none=>rw[q2]at h4;exact aP h4
  |some z =>
   obtain⟨y,n,l⟩:=z;rw[q2]at h4;simp only[bw]at h4;obtain⟨⟨⟨h5,h6⟩,h7⟩,h8⟩:=h4;have e6:=beq_iff_eq.mp h6;subst e6;obtain⟨ap,cp,rfl,rfl⟩:=a6M q2;obtain⟨hc,es,kt,pt,rfl⟩:=htt h0;exact apS hc (dN Q c y h8) (lB h7) h5
theorem a6P{j:Nat}{l:List Bool}(h:(l.set i ao)[j]?=aj ak):i≠j/\l[j]?=aj ak:=by
 by_cases c:i=j
 .subst c;by_cases k:i<l.length
  .rw[a2c k]at h;cases h
  .rw[a1e (by rw[List.length_set];omega)]at h;cases h
 .rw[rm c]at h;exact⟨c,h⟩
theorem aE5{S:SI}{nm:Str}(Q:j8 X S ex)(n:nm∉S.N):j8 (abW X i nm) (S.hid i nm) (λρ=>ex (jQ ρ i)) where
 N:=by show X.N.set i _=S.N.set i _;rw[Q.N]
 nd:=a6E Q.nd (by rw[Q.N];exact n)
 vis:=λj x e1 e2=>by
  obtain⟨c,e2⟩:=a6P e2;have e1:(S.N.set i nm)[j]?=aj x:=e1;rw[rm c]at e1;exact Q.vis j x e1 e2
 ce:=λj x e1 e2=>by
  obtain⟨c,e2⟩:=a6P e2;have e1:(S.N.set i nm)[j]?=aj x:=e1;rw[rm c]at e1;exact Q.ce j x e1 e2
 gm:=λk x g e=>by
  obtain⟨a,b,c,d⟩:=Q.gm k x g e;refine⟨a,b,c,?_⟩;cases g<;>exact d
 hu:=Q.hu
 cm:=Q.cm
 cat:=apK Q.cat
 nk:=Q.nk
theorem aE6{S:SI}{nm:Str}(Q:a02 X S ex lv)(n:nm∉S.N):a02 (abW X i nm) (S.hid i nm) (λρ=>ex (jQ ρ i)) lv where
 si:=aE5 Q.si n
 loc:=λj x e1 e2=>by
  obtain⟨c,e2⟩:=a6P e2;have e1:(S.N.set i nm)[j]?=aj x:=e1;rw[rm c]at e1;exact Q.loc j x e1 e2
 lcl:=λj x e1 e2=>by
  obtain⟨c,e2⟩:=a6P e2;have e1:(S.N.set i nm)[j]?=aj x:=e1;rw[rm c]at e1;exact Q.lcl j x e1 e2
 fn:=λj x e1 e2=>by
  obtain⟨c,e2⟩:=a6P e2;have e1:(S.N.set i nm)[j]?=aj x:=e1;rw[rm c]at e1;exact Q.fn j x e1 e2
 cls:=Q.cls
 l0:=Q.l0
 rz:=λa b=>apL (Q.rz a b)
 stk:=Q.stk
 frm:=Q.frm
theorem aeP(h:isTup e=ak):∃es kt pt,e=.Tuple es kt pt:=by
 cases e<;>first|exact⟨_,_,_,rfl⟩|exact aP h
set_option tactic.hygienic true in
mutual
theorem okS:∀(c:CS){X:Cx}{S:SI}{ex:aN->aX}{lv:Nat},a02 X S ex lv->∀(st:kj),kS S lv c st=ak->PS3 X st (mS S.gl X.K ex c)
 |.hid i nm c,X,S,ex,lv,Q,st,h=>by
  have h':(!S.N.contains nm&&kS (S.hid i nm) lv c st)=ak:=by
   cases st<;>exact h
  rw[bw,gq]at h'
  exact aDI (okS c (aE6 Q (by
   intro z;rw[List.contains_iff_mem.mpr z]at h';cases h'.1)) st h'.2)
 |.ret e,X,S,ex,lv,Q,st,h=>by
  cases st with
  |Return v p =>
   cases v with
   |some x=>exact azK (dN Q.si e x h)
   |none=>exact aP h
  |_=>exact aP h
 |.expr e,X,S,ex,lv,Q,st,h=>by
  cases st with
  |Expr x p =>
   have h':(!lW x&&kE S e x)=ak:=h;simp only[bw,gq]at h';exact aCA (dN Q.si e x h'.2) (aeN h'.1)
  |_=>exact aP h
 |.ifs t a b,X,S,ex,lv,Q,st,h=>by
  cases st with
  |If x y z p =>
   have h':(kT S t x&&kB S lv a y&&kB S lv b z)=ak:=h;simp only[bw]at h';exact aNI (okT Q.si t x h'.1.1) (okB a Q y h'.1.2) (okB b Q z h'.2)
  |_=>exact aP h
 |.set i e,X,S,ex,lv,Q,st,h=>by
  cases st with
  |Assign ts y p =>
   cases ts with
   |nil=>exact aP h
   |cons t r =>
    cases r with
    |cons _ _=>cases t<;>exact aP h
    |nil =>
     cases t with
     |Name x q =>
      have h':(S.N[i]?==aj x&&S.fl[i]?==aj ak&&!lW y&&kE S e y)=ak:=h;simp only[bw,gq]at h';have e1:=beq_iff_eq.mp h'.1.1.1;exact azL (i:=i) Q.si.nd (by rw[Q.si.N];exact e1) (Q.loc i x e1 (beq_iff_eq.mp h'.1.1.2)) (dN Q.si e y h'.2) (aeN h'.1.2) (.inl (Q.fn i x e1 (beq_iff_eq.mp h'.1.1.2)))
     |_=>exact aP h
  |_=>exact aP h
 |.awV o i e,X,S,ex,lv,Q,st,h=>by
  cases st with
  |Assign ts z p =>
   cases ts with
   |nil=>exact aP h
   |cons t r =>
    cases r with
    |cons _ _=>cases t<;>exact aP h
    |nil =>
     cases t with
     |Subscript x y q =>
      have h':(!isSlice y&&!lW z&&kE S o x&&kE S i y&&kE S e z)=ak:=h;simp only[bw,gq]at h';exact aDB Q.si.hu (dN Q.si o x h'.1.1.2) (dN Q.si i y h'.1.2) (dN Q.si e z h'.2) (aeN h'.1.1.1.2)
     |_=>exact aP h
  |_=>exact aP h
 |.awW o i e,X,S,ex,lv,Q,st,h=>by
  cases st with
  |Assign ts z p =>
   cases ts with
   |nil=>exact aP h
   |cons t r =>
    cases r with
    |cons _ _=>cases t<;>exact aP h
    |nil =>
     cases t with
     |Subscript x y q =>
      have h':(!isSlice y&&!lW z&&kE S o x&&kE S i y&&kE S e z)=ak:=h;simp only[bw,gq]at h';exact aDP Q.si.hu (dN Q.si o x h'.1.1.2) (dN Q.si i y h'.1.2) (dN Q.si e z h'.2) (aeN h'.1.1.1.2)
     |_=>exact aP h
  |_=>exact aP h
 |.awS o i e,X,S,ex,lv,Q,st,h=>by
  cases st with
  |Assign ts z p =>
   cases ts with
   |nil=>exact aP h
   |cons t r =>
    cases r with
    |cons _ _=>cases t<;>exact aP h
    |nil =>
     cases t with
     |Subscript x y q =>
      have h':(!isSlice y&&!lW z&&kE S o x&&kE S i y&&kE S e z)=ak:=h;simp only[bw,gq]at h';obtain⟨⟨⟨⟨h1,h2⟩,h3⟩,h4⟩,h5⟩:=h';exact aCB (dN Q.si o x h3) (dN Q.si i y h4) (dN Q.si e z h5) (awZ h1) (ax1 h2) ax0 rfl
     |_=>exact aP h
  |_=>exact aP h
 |.raise k e es,X,S,ex,lv,Q,st,h=>by
  cases st with
  |Raise a b p =>
   cases a with
   |none=>exact aP h
   |some a =>
    cases a with
    |Call f as ks q =>
     cases f with
     |Name x np =>
      cases as with
      |nil=>exact aP h
      |cons y ys =>
       cases ks with
       |cons _ _=>exact aP h
       |nil =>
        cases b with
        |some _=>exact aP h
        |none=>exact aqN Q h
     |_=>exact aP h
    |_=>exact aP h
  |_=>exact aP h
 |.awT k i b hb,X,S,ex,lv,Q,st,h=>by
  cases st with
  |Try y hs el fin p =>
   cases hs with
   |nil=>exact aP h
   |cons hd tl =>
    obtain⟨ty,nm,suite,hp⟩:=hd;cases tl with
    |cons _ _=>cases ty<;>first|exact aP h|(rename_i ty;cases ty<;>cases nm<;>cases suite<;>exact aP h)
    |nil =>
     cases ty with
     |none=>exact aP h
     |some ty =>
      cases ty with
      |Name x cp =>
       cases nm with
       |none=>exact aP h
       |some n =>
        cases suite with
        |nil=>exact aP h
        |cons z zs =>
         cases el with
         |cons _ _=>exact aP h
         |nil =>
          cases fin with
          |cons _ _=>exact aP h
          |nil =>
           have h':(lv==0&&S.calm&&S.N[i]?==aj n&&S.lc[i]?==aj ak&&kB S 1 b y&&kB S.han 2 hb (z::zs)&&S.gv[k]?==aj ak&&aaJ S k x)=ak:=h;simp only[bw]at h';obtain⟨⟨⟨⟨⟨⟨⟨h0,hcm⟩,h1⟩,h2⟩,h3⟩,h4⟩,hv⟩,h⟩:=h';have hv:=beq_iff_eq.mp hv;obtain⟨a,hg⟩:=aeO h;show PS3 X _ (awY S.gl X.K k i (λEX2=>mB S.gl X.K EX2 b) (mB S.gl X.K NoX hb));rw[ax3 hg];have e1:=beq_iff_eq.mp h1;obtain⟨g1,g2,g3,g4,g5⟩:=Q.si.gl _ _ _ hg hv;obtain⟨c1,c2,c3,c4⟩:=Q.cls _ _ _ hg hv;exact aIH (i:=i) (Q.si.cm hcm) Q.si.nd (by rw[Q.si.N];exact e1) (Q.lcl i n e1 (beq_iff_eq.mp h2)) Q.stk Q.frm g1 g4 c2 c3 c4 (λpn EX=>okB b (Q.tr pn EX) y h3) (λxx=>okB hb (Q.ha xx) (z::zs) h4) g2
      |_=>exact aP h
  |_=>exact aP h
 |.setC i fl gv ci cc c,X,S,ex,lv,Q,st,h=>by
  cases st with
  |Assign ts z p =>
   cases ts with
   |nil=>exact aP h
   |cons t r =>
    cases r with
    |cons _ _=>cases t<;>exact aP h
    |nil =>
     cases t with
     |Name y q =>
      cases z with
      |ListComp elt gens scope pp =>
       cases gens with
       |nil=>exact aP h
       |cons g gr =>
        cases gr with
        |cons _ _=>obtain⟨tg,it,ifs,a⟩:=g;cases tg<;>exact aP h
        |nil =>
         obtain⟨tg,it,ifs,a⟩:=g;cases tg with
         |Name x px =>
          have h':(S.N[i]?==aj y&&S.fl[i]?==aj ak&&a==0&&xR S [x] scope fl gv&&!isSet it&&kI S ao ci it&&kC (S.cmp [x] fl gv) cc ifs&&kE (S.cmp [x] fl gv) c elt)=ak:=h;simp only[bw,gq]at h';obtain⟨⟨⟨⟨⟨⟨⟨hy,hy2⟩,h2⟩,h3⟩,h4⟩,h5⟩,h6⟩,h7⟩:=h';have:=beq_iff_eq.mp h2;subst this;have e1:=beq_iff_eq.mp hy;exact avM (i:=i) (jU Q.si h3) (λC s H fp pins σ=>aoT (jU Q.si h3) Q.si.nd) adU Q.si.nd (by rw[Q.si.N];exact e1) (Q.loc i y e1 (beq_iff_eq.mp hy2)) (Q.fn i y e1 (beq_iff_eq.mp hy2)) (okI (tt:=false) Q.si (λz=>nomatch z) ci it h5) (λC s H fp pins=>okC (Q.si.cmp h3 C s H fp pins) cc ifs h6) (λC s H fp pins=>dN (Q.si.cmp h3 C s H fp pins) c elt h7) (aeM h4)
         |_=>exact aP h
      |_=>exact aP h
     |_=>exact aP h
  |_=>exact aP h
 |.a1V ci tg b,X,S,ex,lv,Q,st,h=>by
  cases st with
  |For tgt it body el p =>
   cases el with
   |cons _ _=>exact aP h
   |nil =>
    have h':(lv !=1&&aqM S tg&&!isSet it&&kTg S tg tgt&&kI S (isTup tgt&&S.calm) ci it&&kB S lv b body)=ak:=h;simp only[bw,gq]at h';obtain⟨⟨⟨⟨⟨h1,hg⟩,h2⟩,h3⟩,h4⟩,h5⟩:=h';exact aD2 (Q.l0 (bne_iff_ne.mp h1)) (aOO Q.si (λz=>by rw[bw]at z;exact⟨Q.si.cm z.2,aeP z.1⟩) ci it h4) (aA5 Q hg h3) (okB b Q body h5) (aeM h2)
  |_=>exact aP h
 |.awU ci tg b,X,S,ex,lv,Q,st,h=>by
  cases st with
  |For tgt it body el p =>
   cases el with
   |cons _ _=>exact aP h
   |nil =>
    have h':(lv !=1&&aqM S tg&&!isSet it&&kTg S tg tgt&&kI S (isTup tgt&&S.calm) ci it&&kB S lv b body)=ak:=h;simp only[bw,gq]at h';obtain⟨⟨⟨⟨⟨h1,hg⟩,h2⟩,h3⟩,h4⟩,h5⟩:=h';exact awF (Q.l0 (bne_iff_ne.mp h1)) (aOP Q.si (λz=>by rw[bw]at z;exact⟨Q.si.cm z.2,aeP z.1⟩) ci it h4) (aA5 Q hg h3) (okB b Q body h5) (aeM h2)
  |_=>exact aP h
 |.pass,X,S,ex,lv,Q,st,h=>by
  cases st with
  |Pass _=>exact aC9
  |_=>exact aP h
theorem okB:∀(c:CB){X:Cx}{S:SI}{ex:aN->aX}{lv:Nat},a02 X S ex lv->∀(st:List kj),kB S lv c st=ak->xE X st (mB S.gl X.K ex c)
 |.nil,X,S,ex,lv,Q,st,h=>by
  cases st with
  |nil=>exact aIA
  |cons _ _=>exact aP h
 |.cons s .nil,X,S,ex,lv,Q,st,h=>by
  match st,h with
  |[],h=>exact aP h
  |[x],h =>
   have h':(kS S lv s x&&kB S lv .nil [])=ak:=h;rw[bw]at h';exact azJ (okS s Q x h'.1)
  |x::y::ys,h =>
   have h':(kS S lv s x&&kB S lv .nil (y::ys))=ak:=h;rw[bw]at h';exact aP h'.2
 |.cons s (.cons s' r),X,S,ex,lv,Q,st,h=>by
  match st,h with
  |[],h=>exact aP h
  |x::ys,h =>
   have h':(kS S lv s x&&kB S lv (.cons s' r) ys)=ak:=h;rw[bw]at h';exact aC8 (okS s Q x h'.1) (okB (.cons s' r) Q ys h'.2)
end
end L4
namespace L4
open PySem PySem.Spec PyProof.Rows L2
noncomputable def aY(R:fL):fL:=λd G'=>∃G0,Le G0 G'/\R d G0
noncomputable def fO(EX:aX):aX:=λC G'=>∃G0,Le G0 G'/\EX C G0
noncomputable def wQ(n m:Nat)(tb:aX->bI):gW:=λds G R EX=>ds.length=m/\tb (fO EX) ⟨λ_ G'=>aY R .non G',aY R,λ_ _=>False,λ_ _=>False⟩ (rN n ds) G
theorem aY.here(h:R d G):aY R d G:=⟨G,.refl G,h⟩
theorem fO.here(h:R d G):fO R d G:=⟨G,.refl G,h⟩
theorem aeQ{K:Fg}(h:UpX K EX E):UpX K (fO EX) E:=λC H' G' g ⟨G0,l,q⟩=>h C H' G0 (g.le l) q
variable{qt:Bool}{P:jt}{mg:Str->Option bh}{base:jj}{x qual:Str}{st:kj}{f:bx}{fd:ju}{ps:List Str}
theorem ax5{w:iy}{K:Fg}{N:List Str}{k:Nat}{tb:aX->bI}(F:Fun K x qual st f fd)(S:bA N ps (aW st))
  (hbody:∀(cdv:bh)(A:iw)(outer:List Env)(s:cj)(H:Hp)(E:XK)(EX:aX),d9 qt k (A.deeper (envOfC qual (aW st) s.heap.objs.size f cdv))->UpX K EX E ->
   xE (cx1 qt P w K mg base N qual (aW st) f cdv A outer s H E) (bU st) (tb EX)):bY qt P w K mg base (gZ P w) (k+1) f fd ps (cH K (wQ N.length ps.length tb)):=by
 refine(aCC F S hbody).imp ?_;rintro vs H Q E ⟨ds,G,R,EX,r,g,⟨hl,q⟩,kk,hE⟩;exact⟨ds,G,aY R,fO EX,r,g,⟨hl,q⟩,(by rintro v H' d G' r1 g1 ⟨G0,l,q⟩;exact kk v H' d G0 r1 (g1.le l) q),aeQ hE⟩
noncomputable def GTs(P:jt)(w:iy)(K:Fg)(mg:Str->Option bh)(base:jj)(k:Nat)(x:Str):GT->Prop
 |.con d=>∃u v,mg x=aj u/\RelV v u/\∀H,RD K H d v
 |.cls a=>mg x=aj (.ref a)/\yt K a BMv "ValueError.__new__"=ak/\(vf K a).isSome=ak/\a0p K (.ref a)=aj (.type "type")/\uf K (.ref a) (.type "BaseException")=aj ak
 |.fn sp n qt=>∃f fd ps,bY qt P w K mg base (gZ P w) k f fd ps (cH K sp)/\mg x=aj (.ref f)/\tu K (.ref f)=ak/\Binds K fd ps []
 |.bf b=>mg x=aq/\jr x=aj (aqB b)
 |.bt n=>mg x=aq/\jr x=aj (.type n)
 |.kl C sp dd=>∃j f fd ps ds yX,j+1=k/\Mk K C f/\bY ao P w K mg base (gZ P w) j f fd ps (cH K sp)/\mg x=aj (.ref C)/\Binds K fd ps ds/\Vals yX ds/\∀H,bQ K H dd yX
 |.me C m sp dd=>∃f fd ps ds yX,Cls K C/\Meth K C m f/\bY ao P w K mg base (gZ P w) k f fd ps (cH K sp)/\Binds K fd ps ds/\Vals yX ds/\∀H,bQ K H dd yX
 |.fl C f=>Cls K C/\anK K C f
 |.clo c sp=>adM ao P w K mg base k c sp
 |.fnP sp n=>∃f fd ps,aeE ao P w K mg base (gZ P w) k f fd ps (cH K sp)/\mg x=aj (.ref f)/\tu K (.ref f)=ak/\Binds K fd ps []
noncomputable def ax7(sc:uh)(x:Str):Bool:=match sc.names.lookup x with
 |some .local=>ak
 |some .cell=>ak
 |_=>ao
noncomputable def ax8(sc:uh)(x:Str):Bool:=match sc.names.lookup x with
 |some .local=>ak
 |_=>ao
noncomputable def ax9(sc:uh)(x:Str):Bool:=match sc.names.lookup x with
 |some .globalImplicit=>ak
 |_=>ao
noncomputable def axA(sc:uh)(x:Str):Bool:=match sc.names.lookup x with
 |some .cell=>ak
 |_=>ao
set_option tactic.hygienic true in
theorem ajF{sc:uh}(h:axA sc x=ak):sc.names.lookup x=aj .cell:=by
 unfold axA at h;split at h
 .rename_i e;exact e
 .exact aP h
noncomputable def a6Q(S:SI)(sc:uh):Bool:=(jy S.N.length).all (λi=>match S.N[i]? with
  |none=>ao
  |some x=>x !=("__debug__":Str)&&x !=("__classdict__":Str)&&(S.fl[i]? !=aj ak||ax7 sc x)&&(S.lc[i]? !=aj ak||ax8 sc x)&&(S.ce[i]? !=aj ak||axA sc x)) &&
 (jy S.gl.length).all (λk=>match S.gl[k]? with
  |none=>ao
  |some (y,_)=>(S.gv[k]? !=aj ak||ax9 sc y)&&y !=("__debug__":Str)&&y !=("__name__":Str))
set_option tactic.hygienic true in
theorem ajG(h:ax7 sc x=ak):Loc sc x:=by
 unfold ax7 at h;split at h
 .rename_i e;exact .inl e
 .rename_i e;exact .inr e
 .exact aP h
theorem ac6(h:Loc sc x):Vis sc x:=h.elim .inl λz=>.inr (.inl z)
set_option tactic.hygienic true in
theorem ajH{sc:uh}(h:ax8 sc x=ak):sc.names.lookup x=aj .local:=by
 unfold ax8 at h;split at h
 .rename_i e;exact e
 .exact aP h
set_option tactic.hygienic true in
theorem ajI{sc:uh}(h:ax9 sc x=ak):sc.names.lookup x=aj .globalImplicit:=by
 unfold ax9 at h;split at h
 .rename_i e;exact e
 .exact aP h
variable{S:SI}
theorem oR{sc:uh}(h:a6Q S sc=ak){i:Nat}(e:S.N[i]?=aj x) :
  (x==("__debug__":Str))=ao/\(x==("__classdict__":Str))=ao/\(S.fl[i]?=aj ak->Loc sc x)/\(S.lc[i]?=aj ak->sc.names.lookup x=aj .local)/\(S.ce[i]?=aj ak->sc.names.lookup x=aj .cell):=by
 unfold a6Q at h;rw[bw]at h;have hi:i<S.N.length:=(gj.mp e).1;have q:=jq.mp h.1 i (xg.mpr hi);rw[e]at q;simp only[bw,bne_iff_ne,ne_eq,a0i]at q;obtain⟨⟨⟨⟨q1,q2⟩,q3⟩,q4⟩,q5⟩:=q;refine⟨beq_eq_false_iff_ne.mpr q1,beq_eq_false_iff_ne.mpr q2,λz=>?_,λz=>?_,λz=>?_⟩
 .rcases q3 with q|q
  .exact absurd z q
  .exact ajG q
 .rcases q4 with q|q
  .exact absurd z q
  .exact ajH q
 .rcases q5 with q|q
  .exact absurd z q
  .exact ajF q
theorem ajJ{sc:uh}(h:a6Q S sc=ak){k:Nat}{g:GT}(e:S.gl[k]?=aj (x,g)):(S.gv[k]?=aj ak->sc.names.lookup x=aj .globalImplicit)/\(x==("__debug__":Str))=ao/\x≠"__name__":=by
 unfold a6Q at h;rw[bw]at h;have q:=jq.mp h.2 k (xg.mpr (gj.mp e).1);rw[e]at q;simp only[bw,bne_iff_ne,ne_eq,a0i]at q;exact⟨λz=>ajI (q.1.1.resolve_left λn=>n z),beq_eq_false_iff_ne.mpr q.1.2,q.2⟩
theorem aqP{w:iy}{K:Fg}{k:Nat}{c:CB}(F:Fun K x qual st f fd)(hS:bA S.N ps (aW st))
  (hc:S.calm=!qt)(hv:a6Q S (aW st)=ak)(hk:kB S 0 c (bU st)=ak)(hg:∀(j:Nat)(y:Str)(g:GT),S.gl[j]?=aj (y,g)->GTs P w K mg base k y g)(hn:S.need=ao:=by rfl) :
  bY qt P w K mg base (gZ P w) (k+1) f fd ps (cH K (wQ S.N.length ps.length λEX=>mB S.gl K (λ_=>EX) c)):=by
 refine ax5 F hS λcdv A outer s H E EX hr hE=>?_;refine okB c (X:=cx1 qt P w K mg base S.N qual (aW st) f cdv A outer s H E) (S:=S) (ex:=λ_=>EX) (lv:=0) ?_ (bU st) hk;refine⟨⟨rfl,hS.nd,λi y e1 e2=>?_,λi y e1 e2=>.inl ((oR hv e1).2.2.2.2 e2),λj y g e=>?_,hr.units,λz=>hc.symm.trans z,aID hE,λz=>by rw[hn]at z;cases z⟩,λi y e1 e2=>?_,λi y e1 e2=>?_,λ_ _ _ _=>rfl,λj y a e _=>?_,λ_=>own1,λ_ _=>aIE hE,rfl,rfl⟩
 .obtain⟨a1,a2,a3,a4⟩:=oR hv e1;exact⟨ac6 (a3 e2),a1,a2⟩
 .obtain⟨a1,a2,a3⟩:=ajJ hv e;have z:=hg j y g e;refine⟨a1,a2,a3,?_⟩;cases g with
  |con d=>exact z
  |cls a=>exact⟨z.1,z.2.1⟩
  |fn sp n q2 =>
   intro hz;obtain⟨f',fd',ps',F',m',k',b'⟩:=z;refine⟨k,f',fd',ps',F',⟨λe=>hr.hd ?_,hr.dp,hr.un⟩,m',k',b'⟩;have hs:S.calm=ak:=hz.resolve_left (by rw[e];decide);rw[hc]at hs;simpa using hs
  |bf b=>exact z
  |bt n=>exact z
  |kl C sp dd =>
   intro hs;obtain⟨j',f',fd',ps',ds,yX,rfl,q1,q2,q3,q4,q5,q6⟩:=z;rw[hc]at hs;exact⟨j',f',fd',ps',ds,yX,q1,q2,⟨λ_=>hr.hd (by simpa using hs),hr.dp,hr.un⟩,q3,q4,q5,q6⟩
  |me C m sp dd =>
   intro hs;obtain⟨f',fd',ps',ds,yX,q1,q2,q3,q4,q5,q6⟩:=z;rw[hc]at hs;exact⟨k,f',fd',ps',ds,yX,q1,q2,q3,⟨λ_=>hr.hd (by simpa using hs),hr.dp,hr.un⟩,q4,q5,q6⟩
  |fl C f=>exact z
  |clo c sp =>
   intro hs;rw[hc]at hs;exact⟨k,z,⟨λ_=>hr.hd (by simpa using hs),hr.dp,hr.un⟩⟩
  |fnP sp n =>
   intro hs;obtain⟨f',fd',ps',F',m',k',b'⟩:=z;rw[hc]at hs;exact⟨k,f',fd',ps',F',⟨λ_=>hr.hd (by simpa using hs),hr.dp,hr.un⟩,m',k',b'⟩
 .exact(oR hv e1).2.2.1 e2
 .exact(oR hv e1).2.2.2.1 e2
 .have z:=hg j y _ e;exact z.2
end L4
namespace L4
open PySem PySem.Spec PyProof.Rows L2 PySem.W
noncomputable def aE7(sc:uh)(x:Str):Bool:=match sc.names.lookup x with
 |some .free=>ak
 |_=>ao
variable{sc:uh}{x:Str}
theorem axB(h:aE7 sc x=ak):sc.names.lookup x=aj .free:=by
 unfold aE7 at h;split at h
 .assumption
 .exact aP h
noncomputable def aqQ(S:SI)(sc:uh):Bool:=(jy S.N.length).all (λi=>match S.N[i]? with
  |none=>ao
  |some x=>x !=("__debug__":Str)&&x !=("__classdict__":Str)&&(S.fl[i]? !=aj ak||ax7 sc x)&&(S.lc[i]? !=aj ak||ax8 sc x)&&(S.ce[i]? !=aj ak||(axA sc x||aE7 sc x))) &&
 (jy S.gl.length).all (λk=>match S.gl[k]? with
  |none=>ao
  |some (y,_)=>(S.gv[k]? !=aj ak||ax9 sc y)&&y !=("__debug__":Str)&&y !=("__name__":Str))
variable{S:SI}
theorem aqR(h:aqQ S sc=ak){i:Nat}(e:S.N[i]?=aj x) :
  (x==("__debug__":Str))=ao/\(x==("__classdict__":Str))=ao/\(S.fl[i]?=aj ak->Loc sc x)/\(S.lc[i]?=aj ak->sc.names.lookup x=aj .local)/\(S.ce[i]?=aj ak->sc.names.lookup x=aj .cell∨sc.names.lookup x=aj .free):=by
 unfold aqQ at h;rw[bw]at h;have hi:i<S.N.length:=(gj.mp e).1;have q:=jq.mp h.1 i (xg.mpr hi);rw[e]at q;simp only[bw,bne_iff_ne,ne_eq,a0i]at q;obtain⟨⟨⟨⟨q1,q2⟩,q3⟩,q4⟩,q5⟩:=q;exact⟨beq_eq_false_iff_ne.mpr q1,beq_eq_false_iff_ne.mpr q2,λz=>ajG (q3.resolve_left λn=>n z),λz=>ajH (q4.resolve_left λn=>n z),λz=>(q5.resolve_left λn=>n z).elim (λy=>.inl (ajF y)) λy=>.inr (axB y)⟩
theorem aE8(h:aqQ S sc=ak){k:Nat}{g:GT}(e:S.gl[k]?=aj (y,g)):(S.gv[k]?=aj ak->sc.names.lookup y=aj .globalImplicit)/\(y==("__debug__":Str))=ao/\y≠"__name__":=by
 unfold aqQ at h;rw[bw]at h;have hi:k<S.gl.length:=(gj.mp e).1;have q:=jq.mp h.2 k (xg.mpr hi);rw[e]at q;simp only[bw,bne_iff_ne,ne_eq,a0i]at q;exact⟨λz=>ajI (q.1.1.resolve_left λn=>n z),beq_eq_false_iff_ne.mpr q.1.2,q.2⟩
section
variable{w:iy}{K:Fg}{mg:Str->Option bh}{base:jj}{k:Nat}
theorem aqS{X:Cx}{qt:Bool}(hX:X.prog=P/\X.w=w/\X.K=K/\X.mg=mg/\X.base=base)(hr:d9 qt k X.A)(hc:S.calm=!qt){g:GT}(z:GTs P w K mg base k y g):aDY X S.calm y g:=by
 obtain⟨rfl,rfl,rfl,rfl,rfl⟩:=hX;cases g with
 |con d=>exact z
 |cls a=>exact⟨z.1,z.2.1⟩
 |fn sp n q2 =>
  intro hz;obtain⟨f',fd',ps',F',m',k',b'⟩:=z;refine⟨k,f',fd',ps',F',⟨λe=>hr.hd ?_,hr.dp,hr.un⟩,m',k',b'⟩;have hs:S.calm=ak:=hz.resolve_left (by rw[e];decide);rw[hc]at hs;simpa using hs
 |bf b=>exact z
 |bt n=>exact z
 |kl C sp dd =>
  intro hs;obtain⟨j',f',fd',ps',ds,yX,rfl,q1,q2,q3,q4,q5,q6⟩:=z;rw[hc]at hs;exact⟨j',f',fd',ps',ds,yX,q1,q2,⟨λ_=>hr.hd (by simpa using hs),hr.dp,hr.un⟩,q3,q4,q5,q6⟩
 |me C m sp dd =>
  intro hs;obtain⟨f',fd',ps',ds,yX,q1,q2,q3,q4,q5,q6⟩:=z;rw[hc]at hs;exact⟨k,f',fd',ps',ds,yX,q1,q2,q3,⟨λ_=>hr.hd (by simpa using hs),hr.dp,hr.un⟩,q4,q5,q6⟩
 |fl C f=>exact z
 |clo c sp =>
  intro hs;rw[hc]at hs;exact⟨k,z,⟨λ_=>hr.hd (by simpa using hs),hr.dp,hr.un⟩⟩
 |fnP sp n =>
  intro hs;obtain⟨f',fd',ps',F',m',k',b'⟩:=z;rw[hc]at hs;exact⟨k,f',fd',ps',F',⟨λ_=>hr.hd (by simpa using hs),hr.dp,hr.un⟩,m',k',b'⟩
end
theorem adM.mono{qt:Bool}{w:iy}{K:Fg}{mg:Str->Option bh}{base:jj}{j k:Nat}(F:adM qt P w K mg base j c sp)(h:j<=k):adM qt P w K mg base k c sp :=
 λA outer s H us vs ds d G R E f hr=>F A outer s H us vs ds d G R E f (hr.mono h)
noncomputable def inBody(s:kj)(i:Nat):kj:=(bU s).getD i (.Pass ⟨0,0,0,0⟩)
set_option tactic.hygienic true in
theorem alP(h:sc.names.all (λp=>p.2 !=.free||p.1==x)=ak):∀y,sc.names.lookup y=aj .free->y=x:=by
 have key:∀(l:List (Str×nj)),l.all (λp=>p.2 !=.free||p.1==x)=ak->∀y,l.lookup y=aj .free->y=x:=by
  intro l
  induction l with
  |nil=>intro _ y z;cases z
  |cons p r ih =>
   intro ha y z;obtain⟨n,kd⟩:=p;rw[wk,bw]at ha;rw[jo]at z;split at z
   .rename_i e;cases z;rcases a0i _ _ |>.mp ha.1 with q|q
    .simp at q
    .rw[beq_iff_eq.mp e];exact beq_iff_eq.mp q
   .exact ih ha.2 y z
 exact key _ h
set_option tactic.hygienic true in
theorem aqT{K:Fg}{qual:Str}{st:kj}{f c t:bx}{fd:ju}(F:Fun K x qual st f fd){y:Str}(h:tabIn K y=aj (c,t))(hn:nsIn K ji y=aj (aj (.ref f))):fd.code=.ref c:=by
 obtain⟨oc,od,dV,kV,doc,pm,an,cdv,ct,osl,rfl,lk,_⟩:=F.ex;unfold tabIn at h;rw[hn]at h;dsimp only at h;rw[lk]at h;dsimp only at h;split at h
 .rename_i c' e;split at h
  .split at h
   .cases h;first|exact e|assumption|rfl
   .cases h
  .cases h
 .cases h
noncomputable def uF(K:Fg)(x:Str):bx×bx:=(tabIn K x).getD (0,0)
theorem ajK{K:Fg}(h:(tabIn K x).isSome=ak):tabIn K x=aj ((uF K x).1,(uF K x).2):=by
 unfold uF;cases e:tabIn K x with
 |none=>rw[e]at h;cases h
 |some p=>rfl
end L4
namespace L2
open PySem PySem.Spec PyProof.Rows
variable{qt:Bool}{x:Str}
section
open PySem.W
def aqU(T:bx)(H:Hp):Prop:=H T=aj (.xH #[])/\∀b,b≠T->H b=aq∨∃o xs,H b=aj (.gK o (.lst xs))
set_option tactic.hygienic true in
theorem alQ{w:iy}{K:ig}{mg:Str->Option bh}{k:Nat}{s₁:cj}{vs:List bh}{ns:List Int}
  (KX:K.In s₁.heap)(hns:s₁.heap.Ns ji mg)(hb:s₁.heap.Ns a1y mb)(hbb:∀x:Str,x≠"__name__"->mb x=jr x)(hlim:s₁.heap.NoLimit)(hg:s₁.gens=#[])
  (ha:s₁.heap.get? a=aj {cls:=.type "list",data:=.seq vs.toArray})(hi:a0d vs ns)(hl:ns.length<=dg)(hr:d9 qt k callerA)
  (hC:CodeHd s₁.heap cC T)(hT:s₁.heap.get? T=aj (tabObj #[]))(hKT:K.lookup T=aq)(hbm:∃bm o,mg "__builtins__"=aj (.ref bm)/\bm≠a1y/\bm≠ji/\s₁.heap.get? bm=aj o/\o.cls=.type "module"/\o.dict=aj a1y/\o.data=.plain)
  (F:∀base:jj,K.In base->base.Ns ji mg->base.BuiltinsAt mg T->CodeHd base cC T->bY qt P w K mg base CX k fa fd [x] sp)(hbind:∀(s:cj)(u:bh),BindsTo s fd ⟨[u],[]⟩ [(x,u)])
  (hsp:∀H:Hp,aqU T H->pO K H a (ns.map V.int)->sp [.ref a] H (λv _=>v=.bl ak) λ_ _ _=>False)
  (hCX:∀H e s',CX [] H s₁ (λ_ _ _=>False) e s'->False) :
  yu (fj P w) callerA (.call (.ref fa) ⟨[.ref a],[]⟩) (λr s'=>r=.ok (.ret (.bool ak))/\OldK s₁.heap s'.heap/\s'.os=s₁.os/\AllBare s'.gens) s₁:=by
 have rv:=a9P hi;have lenV:=hi.length;have aT:a≠T:=λz=>by rw[z,hT]at ha;cases ha
 have core:∀H:Hp,aqU T H->pO K H a (ns.map V.int)->u9 P w H s₁.heap->(∀b,H b≠aq->b=a∨b=T)->(H a≠aq->K.lookup a=aq) ->
   yu (fj P w) callerA (.call (.ref fa) ⟨[.ref a],[]⟩) (λr s'=>r=.ok (.ret (.bool ak))/\OldK s₁.heap s'.heap/\s'.os=s₁.os/\AllBare s'.gens) s₁:=by
  intro H hO hS hok hA hK;have a4R:∀{b:bx}{o:Obj},s₁.heap.get? b=aj o->H b=aq->(a4X s₁.heap H).get? b=aj o:=λe n=>an5 e n
  have no:∀{b:bx}{o:Obj},s₁.heap.get? b=aj o->(∀its n,o.data≠.seq its n)->o.cls≠.none->H b=aq:=λ{b o} e d1 d2=>by
   cases q:H b with
   |none=>rfl
   |some u =>
    rcases hA b (by rw[q];simp)with e'|e'
    .subst e';rw[ha]at e;cases e;exact absurd rfl (d1 _ _)
    .subst e';rw[hT]at e;cases e;exact absurd rfl d2
  have noD:∀{b:bx}{o:Obj}{es:Array DictEntry}{ep:Nat},s₁.heap.get? b=aj o->o.data=.dict es ep->H b=aq:=λ{b o es ep} e d=>by
   cases q:H b with
   |none=>rfl
   |some u =>
    rcases hA b (by rw[q];simp)with e'|e'
    .subst e';rw[ha]at e;cases e;cases d
    .subst e';rw[hT]at e;cases e;cases d
  have nsK:∀{b:bx}{m:Str->Option bh},s₁.heap.Ns b m->(a4X s₁.heap H).Ns b m:=λ{b m} ⟨o,es,ep,e,d,r⟩=>⟨o,es,ep,a4R e (noD e d),d,r⟩
  have hKb:K.In (a4X s₁.heap H):=λb o e=>a4R (KX b o e) (by
   cases q:H b with
   |none=>rfl
   |some u =>
    rcases hA b (by rw[q];simp)with e'|e'
    .subst e';rw[hK (by rw[q];simp)]at e;cases e
    .subst e';rw[hKT]at e;cases e)
  have hM:Mod K mg (a4X s₁.heap H):=⟨hKb,nsK hns,⟨mb,nsK hb,hbb⟩,let⟨mc,h1,h2⟩:=hlim;⟨mc,nsK h1,h2⟩⟩
  have hBA:(a4X s₁.heap H).BuiltinsAt mg T:=by
   obtain⟨bm,o,b1,b2,b3,b4,b5,b6,b7⟩:=hbm;refine⟨bm,o,b1,b2,b3,λz=>?_,a4R b4 (no b4 (λits n z=>by rw[b7]at z;cases z) (by rw[b5];intro z;cases z)),b5,b6,b7⟩;rw[z,hT]at b4;cases b4;cases b5
  have hCb:CodeHd (a4X s₁.heap H) cC T:=by
   obtain⟨o,vs',file,tf,flags,tg,inF,text,tt,e,c1,c2,r⟩:=hC;exact⟨o,vs',file,tf,flags,tg,inF,text,tt,a4R e (no e (λits n z=>by rw[c2]at z;cases z) (by rw[c1];intro z;cases z)),c1,c2,r⟩
  have e0:yD P w K mg (a4X s₁.heap H) callerA [] s₁ H:=⟨rfl,hM,λb o e=>atY e,a1v (akM _ _),trivial,λb hb=>absurd (show b∈([]:List bx)from hb) (by simp),hok,.of_eq hg,.inl rfl⟩;refine codeAny_mono ((F _ hKb (nsK hns) hBA hCb).run callerA [] s₁ H ⟨[.ref a],[]⟩ [.ref a] [.ref a] _ _ hr e0 (hbind s₁ (.ref a)) (.cons rfl .nil) (hsp H hO hS)) λr s' h=>?_;cases r with
  |error e=>exact(hCX H e s' h).elim
  |ok fl =>
   cases fl with
   |next=>exact False.elim h
   |brk=>exact False.elim h
   |cont=>exact False.elim h
   |ret u =>
    obtain⟨v,H',os,bare,un,hok',r',q⟩:=h;have q':v=.bl ak:=q;subst q';obtain rfl:u=bh.bool ak:=r'
    have old:∀b o,b≠T->s₁.heap.get? b=aj o->s'.heap.get? b=aj o:=λb o bT e=>by
     cases q:H b with
     |none=>exact un.keep b o e q (by intro z;exact absurd (show b∈([]:List bx)from z) (by simp)) (by simp)
     |some u =>
      rcases hO.2 b bT with z|⟨ob,xs,z⟩
      .rw[q]at z;cases z
      .have z2:=un.fK b ob _ z;obtain⟨e1,_⟩:=hok b _ z;obtain⟨e2,_⟩:=hok' b _ z2;rw[e]at e1;cases e1;exact e2
    obtain⟨more,eM⟩:=un.nD T _ hO.1;have hT':s'.heap.get? T=aj (tabObj (#[]++more)):=hok' T _ eM;refine⟨rfl,⟨λb o e=>?_,λb o e=>?_⟩,os,bare⟩
    .by_cases bT:b=T
     .subst bT;rw[hT]at e;cases e;exact .inr (.inl ⟨(hC.tab hT).isCodeTable,rfl,#[],#[]++more,rfl,by rw[Array.empty_append];exact hT'⟩)
     .exact .inl (old b o bT e)
    .by_cases bT:b=T
     .subst bT;exact⟨_,hT'⟩
     .exact⟨o,old b o bT e⟩
 cases hk:K.lookup a with
 |some o =>
  have e:=KX a o hk;rw[ha]at e;cases e;refine core (λb=>if b=T then aj (.xH #[])else aq) ⟨if_pos rfl,λb n=>.inl (if_neg n)⟩ (.inr ⟨_,vs.toArray,_,hk,rfl,rfl,rfl,by rw[dj,lenV];exact hl,by simpa using rv⟩) (λb u z=>?_) (λb z=>?_) λz=>absurd (if_neg aT) z
  .by_cases hb:b=T
   .have z':=(if_pos hb).symm.trans z;cases z';subst hb;exact hT
   .have z':=(if_neg hb).symm.trans z;cases z'
  .by_cases hb:b=T
   .exact .inr hb
   .exact absurd (if_neg hb) z
 |none =>
  refine core (λb=>if b=T then aj (.xH #[])else if b=a then aj (.gK {cls:=.type "list",data:=.seq vs.toArray} (.lst (ns.map V.int)))else aq) ⟨if_pos rfl,λb n=>?_⟩ (.inl (.inr ⟨{cls:=.type "list",data:=.seq vs.toArray},(if_neg aT).trans (if_pos rfl)⟩)) (λb u z=>?_) (λb z=>?_) λ_=>hk
  .by_cases hb:b=a
   .exact .inr ⟨_,_,(if_neg n).trans (if_pos hb)⟩
   .exact .inl ((if_neg n).trans (if_neg hb))
  .by_cases hb:b=T
   .have z':=(if_pos hb).symm.trans z;cases z';subst hb;exact hT
   .have z:=(if_neg hb).symm.trans z;by_cases hb2:b=a
    .have z':=(if_pos hb2).symm.trans z;cases z';subst hb2;exact⟨ha,by rw[jc];exact hl,vs,_,rv,ha⟩
    .have z':=(if_neg hb2).symm.trans z;cases z'
  .by_cases hb:b=T
   .exact .inr hb
   .by_cases hb2:b=a
    .exact .inl hb2
    .exact absurd ((if_neg hb).trans (if_neg hb2)) z
theorem aqV{l:PySem.W.OpenLaw}{n k:Nat}{q:jt}{loose:List Str}{XP:(Str->Option bh)->jj->Prop}{YP:iy->jj->Prop}{d dm:DefRec}{K:Params->ig}{CX:iy->CXT}{sp:iy->Sp}{xm:Str}{T cC:iy->bx}
  (hn:l.most=aj n)(hn2:n<=dg)(hdf:d.params.defaults=[])(hr:d9 qt k callerA)
  (hY:∀(w:iy)(h:jj),YP w h->(K w.params).In h)(hdm:(recsOf q).find? (λe=>e.name==xm)=aj dm)(ht:∀w,tabIn (K w.params) xm=aj (cC w,T w))(hKT:∀w,(K w.params).lookup (T w)=aq)
  (F:∀(w:iy)(mg:Str->Option bh)(fa:bx)(h:jj),(K w.params).In h->h.Ns ji mg->mg d.name=aj (.ref fa) ->
   ∃fd:ju,(∀(s:cj)(u:bh),BindsTo s fd ⟨[u],[]⟩ [(x,u)]) /\
    ∀base:jj,(K w.params).In base->base.Ns ji mg->base.BuiltinsAt mg (T w)->CodeHd base (cC w) (T w)->bY qt l.prog w (K w.params) mg base (CX w) k fa fd [x] (sp w))
  (hsp:∀(w:iy)(H:Hp)(a:bx)(ns:List Int),ns.length<=n->aqU (T w) H->pO (K w.params) H a (ns.map V.int)->sp w [.ref a] H (λv _=>v=.bl ak) λ_ _ _=>False)
  (hCX:∀(w:iy)(H:Hp)(s:cj)(e:bh)(s':cj),CX w [] H s (λ_ _ _=>False) e s'->False) :
  PySem.W.WalkO q loose XP YP l.row.toRowW d [] (λf vs=>PySem.call f vs):=by
 refine Att.adA hn hdf λw s₀ s₁ mg mb fa o pm cd doc a vs ns G Y ho hd hcd hmg hobj hints hlen hg=>?_;have KX:=hY w _ Y;obtain⟨fd,hb,hF⟩:=F w mg fa _ KX G.T.g hmg;obtain⟨t1,t2⟩:=tab_of G.T KX hdm (ht w);obtain⟨bm,ob,b1,b2,b3,b4,b5,b6⟩:=G.T.bmain
 have bG:bm≠ji:=λz=>by
  obtain⟨o,es,ep,e,hd,_⟩:=G.T.g;rw[z,e]at b3;cases b3;rw[hd]at b6;cases b6
 exact alQ KX G.T.g G.T.b G.T.builtins G.T.nolimit hg hobj hints (qz hlen hn2) hr t1 t2 (hKT w) ⟨bm,ob,b1,b2,bG,b3,b4,b5,b6⟩ hF hb (λH hO hS=>hsp w H a ns hlen hO hS) λH e s'=>hCX w H s₁ e s'
end
end L2
namespace L4
open PySem PySem.Spec PyProof.Rows L2 PySem.W
section
variable{w:iy}{K:Fg}{mg:Str->Option bh}{base:jj}{k:Nat}
theorem aqW{c:qC}{ps:List Str}{S:SI}{ce:CE}(hS:ScX S.N ps c.x c.scope)(a5O:∀y∈c.scope.names,y.1=c.x->y.2≠.cell)
  (hb:∀(cl:List (Str×bx))(pm cdv ctv:bh)(us:List bh),us.length=ps.length->zj (kla_fn "<lambda>" c.qual c.params c.body c.scope cl pm cdv ctv) ⟨us,[]⟩=pure (ps.zip us))
  (hc:S.calm=ak)(hv:aqQ S c.scope=ak)(hk:kE S ce c.body=ak)(hg:∀(j:Nat)(y:Str)(g:GT),S.gl[j]?=aj (y,g)->GTs P w K mg base k y g)(hn:S.need=ao:=by rfl) :
  uX ao P w K mg base (k+1) c (spL S.N.length (ps.length+1) (mE S.gl K (λ_=>fO λ_ _=>False) ce)):=by
 refine aDO hS a5O hb λf c' cc A outer s H hr=>?_;refine dN (X:=cxX ao (gZ P w) P w K mg base S.N c.qual c.scope f (.ref c') c.x cc A outer s H (λ_ _ _=>False)) (S:=S) (ex:=λ_=>fO λ_ _=>False) ?_ ce c.body hk;refine⟨rfl,hS.nd,λi y e1 e2=>?_,λi y e1 e2=>(aqR hv e1).2.2.2.2 e2,λj y g e=>?_,hr.units,λ_=>rfl,⟨λpins σ H' s' ρ e s'' I sr z=>?_⟩,λz=>by rw[hn]at z;cases z⟩
 .obtain⟨a1,a2,a3,_⟩:=aqR hv e1;exact⟨ac6 (a3 e2),a1,a2⟩
 .obtain⟨a1,a2,a3⟩:=aE8 hv e;exact⟨a1,a2,a3,aqS (qt:=false) ⟨rfl,rfl,rfl,rfl,rfl⟩ hr hc (hg j y g e)⟩
 .obtain⟨_,_,_,_,_,_,_,_,_,_,_,_,z⟩:=z;obtain⟨_,_,_,_,_,_,z⟩:=z;exact z.elim
theorem uX.mono{qt:Bool}{j k:Nat}(F:uX qt P w K mg base j c sp)(h:j<=k):uX qt P w K mg base k c sp :=
 λA outer s H us vs ds d G R E f cc c' pm ctv u vv hr=>F A outer s H us vs ds d G R E f cc c' pm ctv u vv (hr.mono h)
end
end L4
namespace L2
open PySem PySem.Spec PyProof.Rows
variable{b:bx}
section
open PySem.W
noncomputable abbrev tbs(TL:List (bx×bx)):List bx:=TL.map (·.2)
def aE9(TL:List (bx×bx))(H:Hp):Prop:=(∀t∈tbs TL,H t=aj (.xH #[]))/\∀b,b∉tbs TL->H b=aq∨∃o xs,H b=aj (.gK o (.lst xs))
noncomputable def H0(K:ig)(TL:List (bx×bx))(a:bx)(o:Obj)(ns:List Int):Hp:=λb=>if b∈tbs TL then aj (.xH #[])else if b=a/\K.lookup a=aq then aj (.gK o (.lst (ns.map V.int)))else aq
section
variable{K:ig}{o:Obj}{ns:List Int}{h:jj}
theorem H0.tab(hb:b∈tbs TL):H0 K TL a o ns b=aj (.xH #[]):=if_pos hb
theorem H0.cases{b:bx}(e:H0 K TL a o ns b=aj u):(b∈tbs TL/\u=.xH #[])∨(b∉tbs TL/\b=a/\K.lookup a=aq/\u=.gK o (.lst (ns.map V.int))):=by
 unfold H0 at e;by_cases c:b∈tbs TL
 .rw[if_pos c]at e;cases e;exact .inl ⟨c,rfl⟩
 .rw[if_neg c]at e;by_cases d:b=a/\K.lookup a=aq
  .rw[if_pos d]at e;cases e;exact .inr ⟨c,d.1,d.2,rfl⟩
  .rw[if_neg d]at e;cases e
theorem H0.only:aE9 TL (H0 K TL a o ns):=⟨λt ht=>H0.tab ht,λb hb=>by
 cases e:H0 K TL a o ns b with
 |none=>exact .inl rfl
 |some u =>
  rcases H0.cases e with z|z
  .exact absurd z.1 hb
  .rw[z.2.2.2];exact .inr ⟨_,_,rfl⟩⟩
theorem H0.out(ho:h.get? a=aj o)(hd:∃its n,o.data=.seq its n)(hT:∀t∈tbs TL,h.get? t=aj (tabObj #[]))(e:h.get? b=aj q)(n1:q≠tabObj #[])(n2:q≠o):H0 K TL a o ns b=aq:=by
 cases z:H0 K TL a o ns b with
 |none=>rfl
 |some u =>
  exfalso;rcases H0.cases z with y|y
  .rw[hT b y.1]at e;exact n1 (jk.inj e).symm
  .rw[y.2.1,ho]at e;exact n2 (jk.inj e).symm
end
end
end L2
namespace L4
open PySem PySem.Spec PyProof.Rows L2 PySem.W
noncomputable def aEA(qual x:Str)(s:kj):qC:=match s with
 |.Return (aj (.Tuple [_,.Call _ _ [⟨_,.Lambda a b sc p,_⟩] _] _ _)) _=>⟨qual++".<locals>."++"<lambda>",a,b,sc,x,p⟩
 |s=>⟨"",dB s,.Name "" ⟨0,0,0,0⟩,aW s,"",⟨0,0,0,0⟩⟩
noncomputable def aOQ(s:kj):jf:=match s with
 |.Return (aj (.Tuple [e,_] _ _)) _=>e
 |_=>.Name "" ⟨0,0,0,0⟩
noncomputable def aOR(s:kj):jf:=match s with
 |.Return (aj (.Tuple [_,.Call _ [e] _ _] _ _)) _=>e
 |_=>.Name "" ⟨0,0,0,0⟩
noncomputable def alR(s:kj):Nat×Pos×Pos×Pos×Pos×Pos:=match s with
 |.Return (aj (.Tuple [_,.Call (.Name _ p1) _ [⟨_,_,kp⟩] p2] kt pt)) pr=>(kt,p1,p2,pt,pr,kp)
 |_=>(0,⟨0,0,0,0⟩,⟨0,0,0,0⟩,⟨0,0,0,0⟩,⟨0,0,0,0⟩,⟨0,0,0,0⟩)
theorem aK3{b:List kj}{t:bI}(h1:xE X a t)(h2:xE X b u):xE X (a++b) (aR t u):=PSs.imp (av7 h1 h2) λF σ H h=>by
 obtain⟨ρ,G,E,s,g,q,d⟩:=h;exact⟨ρ,G,_,s,g,q,⟨λρ' G' σ' H' s' g' q'=>⟨ρ',G',E,s',g',q',d⟩,d.rt,d.bk,d.ct⟩⟩
section
variable{P:jt}{w:iy}{K:Fg}{mg:Str->Option bh}{base:jj}{k:Nat}
noncomputable def aEB(gl:List (Str×GT))(K:Fg)(ex:aN->aX)(T:bx)(c:qC)(ix:Nat)(sp:gW)(c1:CB)(ce cl:CE):bI:=aR (mB gl K ex c1) (bL (bV (aA (mE gl K ex ce) (aA (ac2 (mE gl K ex cl) T c ix sp) aC))))
theorem aqX{x qual:Str}{st:kj}{f cC T:bx}{fd:ju}{ps:List Str}{ix:Nat}{S:SI}{c:qC}{sp:gW}{c1:CB}{ce cl:CE}{pre:List kj}{e l:jf}{kt:Nat}{p1 p2 pt pr kp:Pos}(F:Fun K x qual st f fd)(hS:bA S.N ps (aW st))
  (hb:bU st=pre++[.Return (aj (.Tuple [e,.Call (.Name "sorted" p1) [l] [⟨aj "key",.Lambda c.params c.body c.scope c.pos,kp⟩] p2] kt pt)) pr])(hd:∀env,defaultsOf c.params env=([],[]))(hq:qual++".<locals>."++"<lambda>"=c.qual)(hfc:fd.code=.ref cC)(hC:CodeHd base cC T)(hbt:base.BuiltinsAt mg T)
  (hcf:c.scope.names.filter (λp=>p.2==.free)=[(c.x,.free)])(hix:S.N[ix]?=aj c.x)(hxc:(aW st).names.lookup c.x=aj .cell)(hgs:(aW st).names.lookup ("sorted":Str)=aj .globalImplicit)(hms:mg "sorted"=aq)
  (LO:uX ao P w K mg base k c sp)(hc:S.calm=ak)(hv:a6Q S (aW st)=ak)(h1:kB S 0 c1 pre=ak)(hke:kE S ce e=ak)(hse:isStar e=ao)(hkl:kE S cl l=ak)(hsl:isStar l=ao)
  (hg:∀(j:Nat)(y:Str)(g:GT),S.gl[j]?=aj (y,g)->GTs P w K mg base (k+2) y g)(hn:S.need=ao:=by rfl):bY ao P w K mg base (gZ P w) (k+3) f fd ps (cH K (wQ S.N.length ps.length λEX=>aEB S.gl K (λ_=>EX) T c ix sp c1 ce cl)):=by
 obtain⟨oc,od,dV,kV,doc,pm,an,cdv,ct,osl,rfl,lk,aOS⟩:=F.ex;rw[hb]at lk ⊢;have ecd:cdv=.ref cC:=hfc;subst ecd;refine bY.imp (?_:bY ao P w K mg base (gZ P w) (k+3) f _ ps (cH K (aIB S.N.length ps.length λEX=>aEB S.gl K (λ_=>EX) T c ix sp c1 ce cl))) λvs H Q E ⟨ds,G,R,EX,r,g,⟨hl,q⟩,kk,hE⟩=>⟨ds,G,aY R,fO EX,r,g,⟨hl,q⟩,(by rintro v H' d G' r1 g1 ⟨G0,l,q⟩;exact kk v H' d G0 r1 (g1.le l) q),aeQ hE⟩;refine anM (k:=k+2) lk aOS hS (λvs H Q E h=>?_) λA outer s H vs Q E hr hsp=>?_
 .obtain⟨ds,G,R,EX,r,g,⟨hl,q⟩,_⟩:=h;rw[←r.length,hl]
 .obtain⟨ds,G,R,EX,r,g,⟨hl,q⟩,kk,hE⟩:=hsp
  have SS:a02 (lR ao (gZ P w) P w K mg base S.N qual (aW st) f (.ref cC) A outer s H E) S (λ_=>EX) 0:=by
   refine⟨⟨rfl,hS.nd,λi y e1 e2=>?_,λi y e1 e2=>.inl ((oR hv e1).2.2.2.2 e2),λj y g e=>?_,hr.units,λz=>rfl,aID hE,λz=>by rw[hn]at z;cases z⟩,λi y e1 e2=>(oR hv e1).2.2.1 e2,λi y e1 e2=>(oR hv e1).2.2.2.1 e2,λ_ _ _ _=>rfl,λj y a e _=>(hg j y _ e).2,λ_=>own1,λ_ _=>aIE hE,rfl,rfl⟩
   .obtain⟨a1,a2,a3,a4⟩:=oR hv e1;exact⟨ac6 (a3 e2),a1,a2⟩
   .obtain⟨a1,a2,a3⟩:=ajJ hv e;exact⟨a1,a2,a3,aqS ⟨rfl,rfl,rfl,rfl,rfl⟩ hr hc (hg j y g e)⟩
  have hu:(A.deeper (envOfC qual (aW st) s.heap.objs.size f (.ref cC))).units+64<kh:=by have:=hr.un;omega
  have pe:=awL (X:=lR ao (gZ P w) P w K mg base S.N qual (aW st) f (.ref cC) A outer s H E) (p:=p1) (pos:=p2) (kp:=kp) (T:=T) (cC:=cC) (ix:=ix) LO hr.in1.in1 hu hgs hms hix hxc hcf hC hbt rfl (hd _) hq (dN SS.si cl l hkl) (aK hsl);have pb:=aK3 (okB c1 SS pre h1) (azJ (azK (pos:=pr) (azG (x1:=kt) (pos:=pt) (dH (dN SS.si ce e hke) (dH pe tM) (aK hse)))));refine⟨_,pb,rN S.N.length ds,G,_,?_,g,q,⟨λρ G' σ' H' s1 g1 q1=>kk .non H' .non G' .non g1 q1,λd G' v H' r1 g1 q1=>kk v H' d G' r1 g1 q1,λ_ _ _ _ _ _ z=>z.elim,λ_ _ _ _ _ _ z=>z.elim⟩⟩;unfold rN L2.start;rw[r.length];exact SR.entry r
end
end L4
namespace L4
open PySem PySem.Spec PyProof.Rows L2
theorem yJ{P:Str->GT->Prop}:∀(j:Nat)(y:Str)(g:GT),([]:List (Str×GT))[j]?=aj (y,g)->P y g:=λj y g h=>by simp at h
theorem cP{P:Str->GT->Prop}{x:Str}{g:GT}{l:List (Str×GT)}(h:P x g)(r:∀(j:Nat)(y:Str)(g:GT),l[j]?=aj (y,g)->P y g):∀(j:Nat)(y:Str)(g':GT),((x,g)::l)[j]?=aj (y,g')->P y g'
 |0,y,g',e=>by simp at e;obtain⟨e1,e2⟩:=e;subst e1;subst e2;exact h
 |j+1,y,g',e=>r j y g' (by simpa using e)
section
variable{w:iy}{K:Fg}{mg:Str->Option bh}{base:jj}{k:Nat}{x:Str}
theorem gcI{z:Int}(h:∃t,mg x=aj (.int z t)):GTs P w K mg base k x (.con (.int z)):=by
 obtain⟨t,h⟩:=h;exact⟨_,.int z,h,⟨t,rfl⟩,λ_=>.int z⟩
theorem gcT(h:∃a,mg x=aj (.ref a)/\∀H,RD K H (.tup ds) (.ref a)):GTs P w K mg base k x (.con (.tup ds)):=by
 obtain⟨a,h,r⟩:=h;exact⟨_,.ref a,h,rfl,r⟩
end
theorem aEC{K:Fg}{its:Array bh}{n:Nat}{sl:Array (Option bh)}(h:K.lookup a=aj ⟨.type "tuple",aq,.seq its n,sl⟩)(hz:its.size<=dg)(v:Vals xs its.toList)(r:∀H,bQ K H ds xs)(H:Hp):RD K H (.tup ds) (.ref a) :=
 .tup (.inr ⟨_,its,n,h,rfl,rfl,rfl,hz,v⟩) (r H) trivial
theorem a03:jr "enumerate"=aj (.type "enumerate"):=by decide+kernel
theorem a04:jr "range"=aj (.type "range"):=by decide+kernel
theorem aqY:jr "zip"=aj (.type "zip"):=by decide+kernel
end L4
namespace L4
open PySem PySem.Spec PyProof.Rows L2
theorem ajL{K:Fg}{ps:List Str}(h:∀us:List bh,us.length=ps.length->zj fd ⟨us,[]⟩=pure (ps.zip us)):Binds K fd ps []:=Binds.all h
end L4
namespace L5
open PySem PySem.Spec PyProof.Rows L2 L4
def onB(x:D)(f:Bool->Prop):Prop:=match x with
 |.bl k=>f k
 |_=>False
def onI(x:D)(f:Int->Prop):Prop:=match x with
 |.int k=>f k
 |_=>False
theorem aED{k:Bool}:onB (.bl k) f=f k:=rfl
theorem axD{k:Int}:onI (.int k) f=f k:=rfl
def a05(xs:List D):Prop:=xs.length<=dg
theorem aEE:a05 []=True:=eq_true (show 0<=dg by decide)
theorem aEF:a05 [a0]=True:=eq_true (show 1<=dg by decide)
theorem aEG:a05 [a0,a1]=True:=eq_true (show 2<=dg by decide)
theorem aEH:a05 [a0,a1,a2]=True:=eq_true (show 3<=dg by decide)
theorem aEI:a05 [a0,a1,a2,a3,a4,a5]=True:=eq_true (show 6<=dg by decide)
theorem aEJ:a05 [a0,a1,a2,a3,a4,a5,a6,a7]=True:=eq_true (show 8<=dg by decide)
variable{i j:Int}{n:Nat}{T:String}{p:bx}{b:Bool}
section
variable{t:bI}{F:cQ}{G:Gp}{R:fL}{K:Fg}
theorem aK4:aR t u F ρ G=t {F with nx:=u F} ρ G:=rfl
theorem aEK:bO F ρ G=F.nx ρ G:=rfl
theorem aEL:cZ te F ρ G=te ρ G λ_ G1=>F.nx ρ G1:=rfl
theorem aK5:bL te F ρ G=te ρ G F.rt:=rfl
theorem aK6:cG tt t u F ρ G=tt ρ G λb G1=>if b=ak then t F ρ G1 else u F ρ G1:=rfl
theorem aK7{i:Nat}:bZ i te F ρ G=te ρ G λx G1=>F.nx (xD ρ i x) G1:=rfl
theorem x_raise:rO EX C tA F ρ G=tA ρ G λds G1=>a05 ds/\EX ρ C G1:=rfl
theorem aK8{i:Nat}:adN K C i bd t F ρ G=bd (λρ1 C' G1=>uf K (.ref C') (.ref C)=aj ak/\∀x,G1 x=aq->t {nx:=λρ2 G2=>F.nx (jQ ρ2 i) G2,rt:=F.rt,bk:=λρ2 G2=>F.bk (jQ ρ2 i) G2,ct:=λρ2 G2=>F.ct (jQ ρ2 i) G2} (xD ρ1 i (.ref x)) (aL G1 x (.exn C'))) F ρ G:=rfl
theorem x_c:aO d ρ G R=R d G:=rfl
theorem aEM:aB 0 (aj d::ρ) G R=R d G:=rfl
theorem aEN:aB (n+1) (o::ρ) G R=aB n ρ G R:=rfl
theorem aqZ:xD (o::ρ) 0 d=aj d::ρ:=rfl
theorem ar0:xD (o::ρ) (n+1) d=o::xD ρ n d:=rfl
theorem ar3:jQ (o::ρ) 0=aq::ρ:=rfl
theorem ar4:jQ (o::ρ) (n+1)=o::jQ ρ n:=rfl
theorem aOV{r:R3}:aG r ta tb ρ G R=ta ρ G λx G1=>tb ρ G1 λy G2=>r x y G2 R:=rfl
theorem aEO:aQ te ρ G Q=te ρ G λx G1=>onB x λk=>Q k G1:=rfl
theorem axE{r r':R3}:oN r r' ta tb tc ρ G R=ta ρ G λx G1=>tb ρ G1 λy G2=>r x y G2 λz G3=>onB z λk=>if k=ak then tc ρ G3 λw G4=>r' y w G4 R else R (.bl ao) G3:=by
 unfold oN;congr 1;funext x G1;congr 1;funext y G2;congr 1;funext z G3;cases z with
 |bl k=>cases k<;>rfl
 |_=>rfl
theorem aK9:adH tt tt' ρ G Q=tt ρ G λc G1=>if c=ak then tt' ρ G1 Q else Q ao G1:=rfl
theorem aOW:uD tt tt' ρ G Q=tt ρ G λc G1=>if c=ak then Q ak G1 else tt' ρ G1 Q:=rfl
theorem aKA:j6 tt ρ G Q=tt ρ G λc G1=>Q (!c) G1:=rfl
theorem aEP:nJ ta tb ρ G R=ta ρ G λx G1=>onB x λk=>if k=ak then tb ρ G1 R else R (.bl ao) G1:=by
 unfold nJ;congr 1;funext x G1;cases x with
 |bl k=>cases k<;>rfl
 |_=>rfl
theorem aEQ:a5Q ta ρ G R=ta ρ G λx G1=>onB x λk=>R (.bl (!k)) G1:=rfl
theorem aKB:a9V ta ρ G R=ta ρ G λx G1=>onI x λk=>R (.int (-k)) G1:=rfl
theorem aKC:ao6 tt ta tb ρ G R=tt ρ G λc G1=>if c=ak then ta ρ G1 R else tb ρ G1 R:=rfl
theorem aKD:aC ρ G Q=Q [] G:=rfl
theorem aER:aA te tA ρ G Q=te ρ G λx G1=>tA ρ G1 λxs G2=>Q (x::xs) G2:=rfl
theorem aKE:bV tA ρ G R=tA ρ G λxs G1=>a05 xs/\R (.tup xs) G1:=rfl
theorem aKF:gY tA ρ G R=tA ρ G λxs G1=>a05 xs/\∀p,G1 p=aq->R (.ref p) (aL G1 p (.lst xs)):=rfl
theorem aKG:abI ρ G R=∀p,G p=aq->R (.ref p) (aL G p (.lF ao [])):=rfl
theorem x_call{ex:aN->aX}:aU sp ex tA ρ G R=tA ρ G λds G1=>sp ds G1 R (ex ρ):=rfl
theorem aOX:cU r tA ρ G R=tA ρ G λxs G1=>r xs G1 R:=rfl
variable{r:RM3}
theorem x_m:tM3 T r te tA ρ G R=te ρ G λx G1=>abH T G1 x/\tA ρ G1 λxs G2=>r x xs G2 R:=rfl
theorem aOY:aoJ T r te ρ G R=te ρ G λx G1=>abH T G1 x/\r x [] G1 R:=rfl
theorem wR:abH "list" G (.ref p)=((aM G p).isSome=ak):=by unfold abH;simp
theorem ar5:pR ρ G Q=Q aq G:=rfl
theorem aES:a1I te ρ G Q=te ρ G λx G1=>onI x λk=>Q (aj k) G1:=rfl
theorem axF:wJ te tl th ρ G R=te ρ G λx G1=>tl ρ G1 λlo G2=>th ρ G2 λhi G3=>avC x lo hi G3 R:=rfl
theorem ar6:dD (.int i) (.int j) G R=R (.int (i+j)) G:=rfl
theorem ar7{xs ys:List D}:dD (.tup xs) (.tup ys) G R=(xs.length+ys.length<=dg/\R (.tup (xs++ys)) G):=rfl
theorem aKH:tO (.int i) (.int j) G R=R (.int (i - j)) G:=rfl
theorem aA7:pQ (.int i) (.int j) G R=(anE i j/\R (.int (i*j)) G):=rfl
theorem aET:gQ (.int i) (.int j) G R=(aB6 i j/\R (.int (i / j)) G):=rfl
theorem aKI:dR (.int i) (.int j) G R=(0<j/\R (.int (i%j)) G):=rfl
theorem x_lt:adI (.int i) (.int j) G R=R (.bl (decide (i<j))) G:=rfl
theorem aOZ:av0 (.int i) (.int j) G R=R (.bl (decide (j<i))) G:=rfl
theorem aP0:adJ (.int i) (.int j) G R=R (.bl (decide (i<=j))) G:=rfl
theorem axG:uE (.int i) (.int j) G R=R (.bl (i==j)) G:=by
 show(aV 20 (.int i)=ak/\aV 20 (.int j)=ak/\_)=_;simp[aV,eqP]
theorem axH:a3O (.int i) (.int j) G R=R (.bl (!(i==j))) G:=by
 show(aV 20 (.int i)=ak/\aV 20 (.int j)=ak/\_)=_;simp[aV,eqP]
theorem axI{i j:Bool}:uE (.bl i) (.bl j) G R=R (.bl (i==j)) G:=by
 show(aV 20 (.bl i)=ak/\aV 20 (.bl j)=ak/\_)=_;simp[aV,eqP]
theorem axJ:a3O (.tup xs) (.tup ys) G R=(aV 20 (.tup xs)=ak/\aV 20 (.tup ys)=ak/\R (.bl (!eqP (.tup xs) (.tup ys))) G):=rfl
theorem axK{z:Str}:m7 [.str z] G R=(z.length<=dg/\R (.int z.length) G):=rfl
theorem axL{ds:List D}:m7 [.tup ds] G R=R (.int ds.length) G:=rfl
theorem wU{ds:List D}(h:aM G q=aj ds):m7 [.ref q] G R=R (.int ds.length) G:=by unfold m7;simp only[h]
theorem aKJ:a9X [.int i] G R=R (.int (if i<0 then -i else i)) G:=rfl
theorem axM:aiS [.bl b] G R=R (.int (if b then 1 else 0)) G:=rfl
theorem a1W(h:zF xs i=aj d):bR (.tup xs) (.int i) G R=R d G:=by unfold bR;simp only[h]
theorem yK(e:aM G p=aj xs)(h:zF xs i=aj d):bR (.ref p) (.int i) G R=R d G:=by unfold bR;simp only[e,h]
theorem aeR:aD K [.non,.ty "int"] G R=R (.bl ao) G:=by
 show("int"∈fM/\R (.bl (L2.subB "NoneType" "int")) G)=_;rw[show L2.subB "NoneType" "int"=ao from by decide];simp[fM]
theorem ac7:aD K [.non,.ty "bool"] G R=R (.bl ao) G:=by
 show("bool"∈fM/\R (.bl (L2.subB "NoneType" "bool")) G)=_;rw[show L2.subB "NoneType" "bool"=ao from by decide];simp[fM]
theorem a8W:aD K [.non,.ty "tuple"] G R=R (.bl ao) G:=by
 show("tuple"∈fM/\R (.bl (L2.subB "NoneType" "tuple")) G)=_;rw[show L2.subB "NoneType" "tuple"=ao from by decide];simp[fM]
theorem ah9:aD K [(.bl b),.ty "int"] G R=R (.bl ak) G:=by
 show("int"∈fM/\R (.bl (L2.subB "bool" "int")) G)=_;rw[show L2.subB "bool" "int"=ak from by decide];simp[fM]
theorem aeS:aD K [(.bl b),.ty "bool"] G R=R (.bl ak) G:=by
 show("bool"∈fM/\R (.bl (L2.subB "bool" "bool")) G)=_;rw[show L2.subB "bool" "bool"=ak from by decide];simp[fM]
theorem ac8:aD K [(.bl b),.ty "tuple"] G R=R (.bl ao) G:=by
 show("tuple"∈fM/\R (.bl (L2.subB "bool" "tuple")) G)=_;rw[show L2.subB "bool" "tuple"=ao from by decide];simp[fM]
theorem aeT:aD K [(.int i),.ty "int"] G R=R (.bl ak) G:=by
 show("int"∈fM/\R (.bl (L2.subB "int" "int")) G)=_;rw[show L2.subB "int" "int"=ak from by decide];simp[fM]
theorem ac9:aD K [(.int i),.ty "bool"] G R=R (.bl ao) G:=by
 show("bool"∈fM/\R (.bl (L2.subB "int" "bool")) G)=_;rw[show L2.subB "int" "bool"=ao from by decide];simp[fM]
theorem a8X:aD K [(.int i),.ty "tuple"] G R=R (.bl ao) G:=by
 show("tuple"∈fM/\R (.bl (L2.subB "int" "tuple")) G)=_;rw[show L2.subB "int" "tuple"=ao from by decide];simp[fM]
theorem aeU:aD K [(.str z),.ty "int"] G R=R (.bl ao) G:=by
 show("int"∈fM/\R (.bl (L2.subB "str" "int")) G)=_;rw[show L2.subB "str" "int"=ao from by decide];simp[fM]
theorem acA:aD K [(.str z),.ty "bool"] G R=R (.bl ao) G:=by
 show("bool"∈fM/\R (.bl (L2.subB "str" "bool")) G)=_;rw[show L2.subB "str" "bool"=ao from by decide];simp[fM]
theorem a8Y:aD K [(.str z),.ty "tuple"] G R=R (.bl ao) G:=by
 show("tuple"∈fM/\R (.bl (L2.subB "str" "tuple")) G)=_;rw[show L2.subB "str" "tuple"=ao from by decide];simp[fM]
theorem aeV:aD K [(.tup xs),.ty "int"] G R=R (.bl ao) G:=by
 show("int"∈fM/\R (.bl (L2.subB "tuple" "int")) G)=_;rw[show L2.subB "tuple" "int"=ao from by decide];simp[fM]
theorem acB:aD K [(.tup xs),.ty "bool"] G R=R (.bl ao) G:=by
 show("bool"∈fM/\R (.bl (L2.subB "tuple" "bool")) G)=_;rw[show L2.subB "tuple" "bool"=ao from by decide];simp[fM]
theorem a8Z:aD K [(.tup xs),.ty "tuple"] G R=R (.bl ak) G:=by
 show("tuple"∈fM/\R (.bl (L2.subB "tuple" "tuple")) G)=_;rw[show L2.subB "tuple" "tuple"=ak from by decide];simp[fM]
theorem lA{q C C':bx}(h:G q=aj (.exn C))(e:ExC K C)(k:iu K (.ref C) (.ref C')=aj b)(z:R (.bl b) G):aD K [.ref q,.ref C'] G R:=by
 unfold aD;simp only[exD,h];exact⟨b,e,k,z⟩
theorem axN{n:String}(h:G q=aj (.exn C))(e:ExC K C)(k:iu K (.ref C) (.type n)=aj b)(z:R (.bl b) G):aD K [.ref q,.ty n] G R:=by
 unfold aD;simp only[exD,tyD,h];exact⟨b,e,k,z⟩
end
theorem bK(h:G p=aj (.lst xs)):aM G p=aj xs:=by unfold aM;rw[h]
theorem v7(h:G p=aj (.rol xs)):aM G p=aj xs:=by unfold aM;rw[h]
theorem bD:aM (aL G p (.lst xs)) p=aj xs:=bK aH
theorem fP{P Q:Prop}(h1:b=ak->P)(h2:b=ao->Q):if b=ak then P else Q:=by
 cases b
 .exact h2 rfl
 .exact h1 rfl
def kn(G:Gp)(d:D):Prop:=(tyD G d).isSome=ak
theorem ar8(h:kn G (.ref q)):tyD G (.ref q)=aj "list" ∨ tyD G (.ref q)=aj "dict":=by
 unfold kn at h
 have e:tyD G (.ref q)=(match G q with
  |some (.lst _)=>aj "list"
  |some (.rol _)=>aj "list"
  |some (.lF _ _)=>aj "dict"
  |_=>aq):=rfl
 rw[e]at h ⊢;split at h
 .exact .inl rfl
 .exact .inl rfl
 .exact .inr rfl
 .simp at h
theorem ahA{b:List D}:kn G (.tup b):=rfl
theorem ar9(h:G p=aj (.lst xs)):kn G (.ref p):=by unfold kn tyD;simp[h]
section
variable{K:Fg}
theorem arA{x:D}{n:String}(e:tyD G x=aj T)(hn:n∈fM):aD K [x,.ty n] G R=R (.bl (L2.subB T n)) G:=by
 show(match tyD G x with
  |some T=>n∈fM/\R (.bl (L2.subB T n)) G
  |none=>_)=_
 rw[e];exact propext ⟨λh=>h.2,λh=>⟨hn,h⟩⟩
theorem a6R(h:kn G (.ref q)):aD K [.ref q,.ty "int"] G R=R (.bl ao) G:=by
 rcases ar8 h with e|e<;>rw[arA e (by decide)]<;>rfl
theorem mQ(h:kn G (.ref q)):aD K [.ref q,.ty "tuple"] G R=R (.bl ao) G:=by
 rcases ar8 h with e|e<;>rw[arA e (by decide)]<;>rfl
theorem at0{α:Type}{a:α}{xs:List α}:zF (a::xs) 0=aj a:=by
 unfold zF ixN;simp
theorem atS{α:Type}{a:α}{xs:List α}:zF (a::xs) ((n+1:Nat):Int)=zF xs (n:Int):=by
 unfold zF ixN;have h0:(0:Int)<=((n+1:Nat):Int):=by omega
 have h1:(0:Int)<=(n:Int):=by omega
 rw[if_pos h0,if_pos h1];by_cases h:n<xs.length
 .have a1:((n+1:Nat):Int)<((a::xs).length:Int):=by simp;omega
  have a2:(n:Int)<(xs.length:Int):=by omega
  rw[if_pos a1,if_pos a2];simp
 .have a1:¬ ((n+1:Nat):Int)<((a::xs).length:Int):=by simp;omega
  have a2:¬ (n:Int)<(xs.length:Int):=by omega
  rw[if_neg a1,if_neg a2];rfl
theorem sE{α:Type}{xs:List α}:zF xs (n:Int)=xs[n]?:=by
 unfold zF ixN;rw[if_pos (by omega)];by_cases h:n<xs.length
 .rw[if_pos (by omega)];simp
 .rw[if_neg (by omega)];simp at h;simp[h]
theorem axO:bR (.tup (a::xs)) (.int 0) G R=R a G:=a1W at0
variable{b:D}
theorem axP:bR (.tup (a::b::xs)) (.int 1) G R=R b G:=a1W (i:=((1:Nat):Int)) (by rw[atS,sE];rfl)
theorem axQ:bR (.tup (a::b::c::xs)) (.int 2) G R=R c G:=a1W (i:=((2:Nat):Int)) (by rw[atS,sE];rfl)
end
section
end
section
end
section
variable{i j:Int}
theorem aEU(h:-18446744073709551616<i/\i<18446744073709551616):pQ (.int i) (.int j) G R=R (.int (i*j)) G:=by
 rw[aA7];exact propext ⟨λz=>z.2,λz=>⟨.inl ⟨by have:=h.1;omega,by have:=h.2;omega⟩,z⟩⟩
theorem aEV(h:-18446744073709551616<j/\j<18446744073709551616):pQ (.int i) (.int j) G R=R (.int (i*j)) G:=by
 rw[aA7];exact propext ⟨λz=>z.2,λz=>⟨.inr ⟨by have:=h.1;omega,by have:=h.2;omega⟩,z⟩⟩
theorem axR(h:0<j/\j<1073741824):gQ (.int i) (.int j) G R=R (.int (i / j)) G:=by
 rw[aET];exact propext ⟨λz=>z.2,λz=>⟨h,z⟩⟩
theorem aEW(h:0<j):dR (.int i) (.int j) G R=R (.int (i%j)) G:=by
 rw[aKI];exact propext ⟨λz=>z.2,λz=>⟨h,z⟩⟩
end
section
variable{i:Int}
theorem arB{α:Type}{xs:List α}(h0:0<=i)(h1:i<(xs.length:Int)):∃d,zF xs i=aj d/\d∈xs:=by
 obtain⟨n,rfl⟩:=Int.eq_ofNat_of_zero_le h0;have hn:n<xs.length:=by omega
 exact⟨xs[n],by rw[sE];simp[hn],List.getElem_mem hn⟩
theorem acC{xs:List D}(e:aM G p=aj xs)(h0:0<=i)(h1:i<(xs.length:Int))(h:∀d∈xs,R d G):bR (.ref p) (.int i) G R:=by
 obtain⟨d,h2,h3⟩:=arB h0 h1;rw[yK e h2];exact h d h3
variable{P:D->Prop}
theorem all_nil:∀d∈([]:List D),P d:=λ_ h=>by simp at h
theorem all_cons{a:D}{r:List D}(h1:P a)(h2:∀d∈r,P d):∀d∈a::r,P d:=λd h=>by
 rcases jm.mp h with rfl|h
 .exact h1
 .exact h2 d h
end
section
variable{b:Bool}{α:Type}{l:List α}
theorem ahB:(True/\P)=P:=true_and P
theorem ahC:(!true)=ao:=rfl
theorem aeW:(!false)=ak:=rfl
theorem arC:((!b)=ak)=(b=ao):=by cases b<;>simp
theorem alS:(if True then P else Q)=P:=if_true ..
theorem ahD:(if False then P else Q)=Q:=if_false ..
theorem aKK:(ao=ak)=False:=by simp
theorem aKL:(ak=ao)=False:=by simp
theorem ahE:(a::l).length=l.length+1:=ug
theorem alT:([]:List α).length=0:=rfl
theorem alU{β:Type}{f:α->β}:(l.map f).length=l.length:=jc ..
end
end L5
namespace L6
open PySem PySem.Spec PyProof.Rows L2 L4 L5
def aEX(x:D)(G:Gp)(Q:Src->Gp->Prop):Prop:=match x with
 |.ref p=>(match aM G p with
  |some xs=>Q (.lst p xs) G
  |none=>False)
 |.tup xs=>Q (.yZ xs) G
 |.str z=>Q (.yZ (signs z)) G
 |_=>False
def ajM(x:D)(G:Gp)(Q:Src->Gp->Prop):Prop:=match x with
 |.ref p=>(match aM G p with
  |some xs=>Q (.lst p xs) G
  |none=>False)
 |.str z=>Q (.yZ (signs z)) G
 |.tup xs=>xs.all scD=ak/\∀a,(G a=aq∨G a=aj (.tpl xs))->Q (.tpl a xs) (aL G a (.tpl xs))
 |_=>False
def aA8(xs:List D)(G:Gp)(Q:Src->Gp->Prop):Prop:=match xs with
 |[.int j]=>-(2^62)<=j/\j<2^62/\Q (.yZ (zO 0 j)) G
 |_=>False
def aEY(xs:List D)(G:Gp)(Q:Src->Gp->Prop):Prop:=match xs with
 |[.ref p,.ref q]=>(match aM G p,aM G q with
  |some xs,aj ys=>Q (.zip p q xs ys) G
  |_,_=>False)
 |_=>False
theorem aEZ:aj4 te td ρ G R=te ρ G λx G1=>td ρ G1 λd G2=>uV x d G2 R:=rfl
variable{p:bx}{ns:List Int}
theorem aF0(hp:aM G p=aj (ns.map D.int))(h0:ns=[]->R d G)(h:∀M,M∈ns->(∀a∈ns,a<=M)->R (.int M) G):uV (.ref p) d G R:=by
 unfold uV;simp only[hp];exact⟨ns,rfl,h0,h⟩
section
variable{p:bx}{j:Int}
theorem axS:uR te ρ G Q=te ρ G λx G1=>aEX x G1 Q:=rfl
theorem aKM:abM te ρ G Q=te ρ G λx G1=>ajM x G1 Q:=rfl
theorem aF1:uT ta ρ G Q=ta ρ G λxs G1=>aA8 xs G1 Q:=rfl
theorem aKN:a2T ta ρ G Q=ta ρ G λxs G1=>aEY xs G1 Q:=rfl
theorem qG(h:aM G p=aj xs):aEX (.ref p) G Q=Q (.lst p xs) G:=by unfold aEX;simp only[h]
theorem aaK(h:aM G p=aj xs)(h':aM G q=aj ys):aEY [.ref p,.ref q] G Q=Q (.zip p q xs ys) G:=by unfold aEY;simp only[h,h']
theorem mZ(h:aM G p=aj xs):ajM (.ref p) G Q=Q (.lst p xs) G:=by unfold ajM;simp only[h]
theorem axT(h:-4611686018427387904<=j/\j<4611686018427387904):aA8 [.int j] G Q=Q (.yZ (zO 0 j)) G:=by
 show(_/\_/\_)=_;exact propext ⟨λz=>z.2.2,λz=>⟨by omega,by omega,z⟩⟩
end
def aeX(dv:D->Option (List D))(src:Src)(tc:xP)(te:cB)(ρ:aN)(G1:Gp)(R:fL):Prop:=src.items.length<dg/\∀p,G1 p=aq->∃P:Nat->List D->Gp->Prop,P 0 [] (aL G1 p (.lst [])) /\
 (∀k ds G,k<=src.items.length->P k ds G->src.ok G/\G p=aj (.lst ds)/\ds.length<=k) /\
 (∀k d ds G,src.items[k]?=aj d->P k ds G->∃ys,dv d=aj ys/\tc (ys.map aj++ρ) G λb G2=>if b=ak then te (ys.map aj++ρ) G2 λy G3=>G3 p=aj (.lst ds)/\P (k+1) (ds++[y]) (aL G3 p (.lst (ds++[y])))else P (k+1) ds G2) /\
 ∀ds G,P src.items.length ds G->∃G0,Le G0 G/\R (.ref p) G0
theorem aF2{ti:TI3}:zP dv ti tc te ρ G R=ti ρ G λsrc G1=>aeX dv src tc te ρ G1 R:=rfl
set_option tactic.hygienic true in
theorem cM(l:Le G G')(h:aM G p=aj xs):aM G' p=aj xs:=by
 unfold aM at h ⊢;split at h
 .rename_i e;rw[l _ _ e];exact h
 .rename_i e;rw[l _ _ e];exact h
 .cases h
variable{src:Src}
theorem aKO(l:Le G G')(h:src.ok G):src.ok G':=by
 cases src with
 |lst p xs=>exact cM l h
 |yZ xs=>trivial
 |zip p q xs ys=>exact⟨cM l h.1,cM l h.2⟩
 |itm p o kvs=>exact l _ _ h
 |key p o t kvs=>exact l _ _ h
 |tpl p xs=>exact l _ _ h
 |enu p xs=>exact l _ _ h
 |enl p xs=>exact cM l h
theorem aF3(l:Le (aL G p o) G'):Le (aL G p o') (aL G' p o'):=λa u e=>by
 by_cases h:a=p
 .subst h;rw[aH]at e ⊢;exact e
 .rw[bC h]at e ⊢;exact l a u (by rw[bC h];exact e)
theorem a06(v:D->List D)(c:D->Bool)(f:D->D)(hl:src.items.length<dg)(hok:src.ok G)(hv:∀d∈src.items,dv d=aj (v d))
  (hc:∀d∈src.items,∀G',Le G G'->∀Q:Bool->Gp->Prop,(∀G'',Le G' G''->Q (c d) G'')->tc ((v d).map aj++ρ) G' Q)
  (he:∀d∈src.items,c d=ak->∀G',Le G G'->∀Q:D->Gp->Prop,(∀G'',Le G' G''->Q (f d) G'')->te ((v d).map aj++ρ) G' Q)
  (h:∀p,G p=aq->R (.ref p) (aL G p (.lst ((src.items.filter c).map f)))):aeX dv src tc te ρ G R:=by
 refine⟨hl,λp hp=>⟨λk ds G'=>ds=((src.items.take k).filter c).map f/\Le (aL G p (.lst ds)) G',⟨rfl,.refl _⟩,λk ds G' hk ⟨e,l⟩=>?_,λk d ds G' hd ⟨e,l⟩=>?_,λds G' ⟨e,l⟩=>?_⟩⟩
 .refine⟨aKO ((Le.new hp).trans l) hok,l p _ aH,?_⟩;rw[e,jc];exact qz (List.length_filter_le _ _) (by rw[wj];omega)
 .have hm:d∈src.items:=lq hd
  have ht:src.items.take (k+1)=src.items.take k++[d]:=by
   rw[a2s,hd];rfl
  refine⟨v d,hv d hm,hc d hm G' ((Le.new hp).trans l) _ λG2 l2=>?_⟩;cases hcd:c d with
  |true =>
   rw[if_pos rfl];refine he d hm hcd G2 (((Le.new hp).trans l).trans l2) _ λG3 l3=>?_;have l4:=(l.trans l2).trans l3;refine⟨l4 p _ aH,?_,aF3 l4⟩;rw[ht,List.filter_append,zq,←e];simp[hcd]
  |false =>
   rw[if_neg (by decide)];refine⟨?_,l.trans l2⟩;rw[ht,List.filter_append,zq,←e];simp[hcd]
 .rw[a0t]at e;subst e;exact⟨_,l,h p hp⟩
theorem ajN(c:D->Bool)(f:D->D)(hl:src.items.length<dg)(hok:src.ok G)
  (hc:∀d∈src.items,∀G',Le G G'->∀Q:Bool->Gp->Prop,(∀G'',Le G' G''->Q (c d) G'')->tc (aj d::ρ) G' Q)
  (he:∀d∈src.items,c d=ak->∀G',Le G G'->∀Q:D->Gp->Prop,(∀G'',Le G' G''->Q (f d) G'')->te (aj d::ρ) G' Q)
  (h:∀p,G p=aq->R (.ref p) (aL G p (.lst ((src.items.filter c).map f)))):aeX agY src tc te ρ G R:=a06 (λd=>[d]) c f hl hok (λ_ _=>rfl) hc he h
theorem comp_map(f:D->D)(hl:src.items.length<dg)(hok:src.ok G)
  (he:∀d∈src.items,∀G',Le G G'->∀Q:D->Gp->Prop,(∀G'',Le G' G''->Q (f d) G'')->te (aj d::ρ) G' Q)
  (h:∀p,G p=aq->R (.ref p) (aL G p (.lst (src.items.map f)))):aeX agY src lV te ρ G R :=
 ajN (λ_=>ak) f hl hok (λd _ G' _ Q h=>h G' (.refl _)) (λd hd _=>he d hd) λp hp=>by
  have:src.items.filter (λ_=>ak)=src.items:=a2p.mpr λ_ _=>rfl;rw[this];exact h p hp
def aaL(src:Src)(tg:TG3)(tb:bI)(F:cQ)(ρ:aN)(G1:Gp):Prop:=∃P:Nat->aN->Gp->Prop,P 0 ρ G1/\(∀k ρ G,k<=src.items.length->P k ρ G->src.ok G) /\
 (∀k d ρ G,src.items[k]?=aj d->P k ρ G->tg d ρ λρ2=>tb {F with nx:=P (k+1),ct:=P (k+1),bk:=F.nx} ρ2 G)/\∀ρ G,P src.items.length ρ G->F.nx ρ G
variable{tg:TG3}{F:cQ}
theorem aF4{ti:TI3}:jT ti tg tb F ρ G=ti ρ G λsrc G1=>aaL src tg tb F ρ G1:=rfl
variable{i:Nat}
theorem axU:nO i d ρ Q=Q (xD ρ i d):=rfl
theorem a6S{is:List Nat}{ds:List D}(h:ds.length=is.length):a2S is (.tup ds) ρ Q=Q (a2R ρ is ds):=propext ⟨λz=>z.2,λz=>⟨h,z⟩⟩
theorem axV:a2R ρ is []=ρ:=by cases is<;>rfl
theorem ajO:a2R ρ (i::is) (d::ds)=a2R (xD ρ i d) is ds:=rfl
variable{j:Int}
theorem aeY(P:Nat->aN->Gp->Prop)(h0:P 0 ρ G)
  (hb:∀(k:Nat) ρ G,(k:Int)<j->P k ρ G->tg (.int k) ρ λρ2=>tb {F with nx:=P (k+1),ct:=P (k+1),bk:=F.nx} ρ2 G)(he:∀ρ G,P j.toNat ρ G->F.nx ρ G):aaL (.yZ (zO 0 j)) tg tb F ρ G:=by
 have hlen:(Src.yZ (zO 0 j)).items.length=j.toNat:=by simp[Src.items,zO]
 refine⟨P,h0,λ_ _ _ _ _=>trivial,λk d ρ G hd p=>?_,λρ G p=>he ρ G (hlen ▸ p)⟩;have hk:k<j.toNat:=by rw[←hlen];exact(gj.mp hd).1
 have e:d=.int k:=by
  have:(zO 0 j)[k]?=aj d:=hd;unfold zO at this;rw[nu,List.getElem?_range (by omega)]at this;simp at this;exact this.symm
 subst e;exact hb k ρ G (by omega) p
variable{xs:List D}
theorem qH(P:Nat->aN->Gp->Prop)(h0:P 0 ρ G)(hs:∀k ρ G,P k ρ G->aM G q=aj xs)
  (hb:∀k d ρ G,xs[k]?=aj d->P k ρ G->tg d ρ λρ2=>tb {F with nx:=P (k+1),ct:=P (k+1),bk:=F.nx} ρ2 G)(he:∀ρ G,P xs.length ρ G->F.nx ρ G):aaL (.lst q xs) tg tb F ρ G :=
 ⟨P,h0,λk ρ G _ p=>hs k ρ G p,hb,he⟩
section
theorem a07{ds:List D}(h:G p=aj (.lst ds))(hl:ds.length<dg):lG (.ref p) [d] G R=R .non (aL G p (.lst (ds++[d]))):=by
 unfold lG;simp only[h,hl,true_and]
theorem arD(h:aM G q=aj ds):a5V [.ref q] G R=∀l,G l=aq->R (.ref l) (aL G l (.lst ds)):=by
 unfold a5V;simp only[h]
end
theorem a1X{G:Gp}{a:bx}{o:GO}(h:G a=aj o)(n:G p=aq):a≠p:=λe=>by subst e;rw[h]at n;cases n
set_option tactic.hygienic true in
theorem ajP(l:Le G G')(h:kn G d):kn G' d:=by
 cases d with
 |ref q =>
  unfold kn tyD at h ⊢;dsimp only at h ⊢;split at h
  .rename_i e;rw[l _ _ e];rfl
  .rename_i e;rw[l _ _ e];rfl
  .rename_i e;rw[l _ _ e];rfl
  .cases h
 |_=>exact h
def arE(o i v:D)(F:cQ)(ρ:aN)(G3:Gp):Prop:=match o,i with
 |.ref p,.int k=>(match G3 p with
  |some (.lst xs)=>(match ixN xs.length k with
   |some j=>F.nx ρ (aL G3 p (.lst (xs.set j v)))
   |none=>False)
  |_=>False)
 |_,_=>False
theorem aF5:abD to ti te F ρ G=te ρ G λv G1=>to ρ G1 λo G2=>ti ρ G2 λi G3=>arE o i v F ρ G3:=rfl
theorem arF{k:Int}(h:G p=aj (.lst xs))(h0:0<=k)(h1:k<(xs.length:Int)):arE (.ref p) (.int k) v F ρ G=F.nx ρ (aL G p (.lst (xs.set k.toNat v))):=by
 unfold arE;have e:ixN xs.length k=aj k.toNat:=by unfold ixN;rw[if_pos h0,if_pos h1]
 simp only[h,e]
theorem axW{i:Int}:(zO i j).length=(j - i).toNat:=by simp[zO]
section
theorem aeZ:∀ns ms:List Int,ns.map D.int=ms.map D.int->ns=ms
 |[],[],_=>rfl
 |[],_::_,e=>by cases e
 |_::_,[],e=>by cases e
 |n::ns,m::ms,e=>by
  simp only[qd,List.cons.injEq]at e;obtain⟨e1,e2⟩:=e;cases e1;rw[aeZ ns ms e2]
theorem aKP(h:aM G q=aj (ns.map D.int)):adX [.ref q] G R=R (.int ns.sum) G:=by
 refine propext ⟨λz=>?_,λz=>?_⟩
 .have z':(match aM G q with
   |some ds=>∃ns:List Int,ds=ns.map D.int/\R (.int ns.sum) G
   |none=>False):=z
  rw[h]at z';obtain⟨ms,e,r⟩:=z';rw[aeZ ns ms e];exact r
 .show(match aM G q with
   |some ds=>∃ns:List Int,ds=ns.map D.int/\R (.int ns.sum) G
   |none=>False)
  rw[h];exact⟨ns,rfl,z⟩
theorem axX(h:G p=aj (.lst ds)):zT (.ref p) [] G R=R .non (aL G p (.lst [])):=by
 unfold zT a66;simp only[h]
end
end L6
namespace L7
open PySem PySem.Spec PyProof.Rows L2 L4 L5 L6
section
variable{F:cQ}{p:bx}
theorem aF6:a1R ta ρ G Q=ta ρ G λxs G1=>ae6 xs G1 Q:=rfl
theorem axY{i j c:Int}(h:-2305843009213693952<=i/\i<2305843009213693952/\-2305843009213693952<=j/\j<2305843009213693952)(hc:c=1∨c=-1):ae6 [.int i,.int j,.int c] G Q=Q (.yZ (yI i c (lH i j c))) G :=
 propext ⟨λz=>z.2.2,λz=>⟨h,hc,z⟩⟩
theorem aKQ{i:Nat}{t:bI}:a6D i t F ρ G=t {nx:=λρ G=>F.nx (jQ ρ i) G,rt:=F.rt,bk:=λρ G=>F.bk (jQ ρ i) G,ct:=λρ G=>F.ct (jQ ρ i) G} (jQ ρ i) G:=rfl
theorem aF7:a4J ρ G R=∀p,G p=aq->R (.ref p) (aL G p (.zJ [])):=rfl
theorem aF8:abR to ti tv F ρ G=tv ρ G λv G1=>to ρ G1 λx G2=>ti ρ G2 λy G3=>ae3 x y v F ρ G3:=rfl
end
end L7
namespace L8
open PySem PySem.Spec PyProof.Rows L2 L4 L5 L6 L7
section
variable{p:bx}
theorem axZ:a4P to te tf ρ G R=to ρ G λx G1=>a1Q x G1/\te ρ G1 λy G2=>tf ρ G2 λz G3=>pY x y G3 λ_ _ kvs k=>R ((nP kvs k).getD z) G3:=rfl
theorem arG{t:Bool}(h:G p=aj (.lF t kvs)):a1Q (.ref p) G=True:=by
 unfold L2.a1Q;simp only[h]
theorem a6T{t:Bool}{k:DK}(h:G p=aj (.lF t kvs))(hk:a8V y=aj k)(ht:xQ k=t):pY (.ref p) y G P=P p t kvs k:=by
 unfold L2.pY;simp only[h,hk];exact propext ⟨λz=>z.2,λz=>⟨ht,z⟩⟩
theorem alV{t:Bool}{k:DK}(h:a69 G p=aj (t,kvs))(hk:a8V y=aj k)(ht:xQ k=t):a6A (.ref p) y G P=P kvs k:=by
 unfold L2.a6A;simp only[h,hk,ht,true_and]
theorem alW{t:Bool}(h:G p=aj (.lF t kvs)):a69 G p=aj (t,kvs):=by unfold L2.a69;rw[h]
theorem arH{t:Bool}{k:DK}(h:a69 G p=aj (t,kvs))(hk:a8V y=aj k)(ht:xQ k=t)(e:nP kvs k=aj d):pH (.ref p) y G R=R d G:=by
 have:pH (.ref p) y G R=L2.abP (.ref p) y G R:=by
  cases y with
  |tup ds=>exact nomatch (show aq=aj k from hk)
  |_=>rfl
 rw[this];unfold L2.abP;rw[alV h hk ht];simp only[e]
theorem ay0{t:Bool}{k:DK}(h:G p=aj (.lF t kvs))(hk:a8V y=aj k)(ht:xQ k=t)(e:nP kvs k=aj d):pH (.ref p) y G R=R d G:=arH (alW h) hk ht e
end
end L8
namespace L9
open PySem PySem.Spec PyProof.Rows L2 L4 L5 L6 L7 L8
section
variable{F:cQ}{p:bx}
noncomputable abbrev ky(a p:Int):List Key:=[.inl a,.inl p]
theorem aF9{t:Bool}:abY t tk tv ρ G R=∀p,G p=aq->tk ρ (aL G p (.lF t [])) λy G1=>tv ρ G1 λv G2=>pY (.ref p) y G2 λa t' kvs k=>kvs.length<dg/\R (.ref p) (aL G2 a (.lF t' (zW kvs k v))):=rfl
theorem a08{i:Int}:a8V (.int i)=aj (.inl (.inl i)):=rfl
theorem ay1{t:Bool}{k:DK}{kvs:List (DK×D)}(h:G p=aj (.lF t kvs))(hk:a8V y=aj k)(ht:xQ k=t)(hl:kvs.length<dg):ae3 (.ref p) y v F ρ G=F.nx ρ (aL G p (.lF t (zW kvs k v))):=by
 unfold L2.ae3;rw[a6T h hk ht];exact propext ⟨λw=>w.2,λw=>⟨hl,w⟩⟩
end
end L9
namespace L10
open PySem PySem.Spec PyProof.Rows L2 L4 L5 L6
section
variable{ρ:aN}{G:Gp}{F:cQ}{p:bx}{al:Bool}{kvs:List (DK×D)}{tg:TG3}{tb:bI}
theorem alX:mL al to ρ G Q=to ρ G λx G1=>a6G al x G1 Q:=rfl
theorem ay2(h:G p=aj (.lF ao kvs)):a6G al (.ref p) G Q=∀od,Q (.itm p od kvs) (aL G p (.rdc od ao kvs)):=by
 unfold L2.a6G;simp only[h]
def aA9(src:Src)(tg:TG3)(tb:bI)(F:cQ)(ρ:aN)(G1:Gp):Prop:=∃P:Nat->aN->Gp->Prop,P 0 ρ G1/\(∀k ρ G,k<=src.items.length->P k ρ G->src.ok G) /\
 (∀k d ρ G,src.items[k]?=aj d->P k ρ G->tg d ρ λρ2=>tb {F with nx:=P (k+1),ct:=P (k+1),bk:=λρ G=>src.ok G/\F.nx ρ (src.ah5 G)} ρ2 G)/\∀ρ G,P src.items.length ρ G->F.nx ρ (src.ah5 G)
theorem aFA{ti:TI3}:a4Q ti tg tb F ρ G=ti ρ G λsrc G1=>aA9 src tg tb F ρ G1:=rfl
theorem a6U{α β:Type}{f:α->β}{l:List α}{k:Nat}{d:β}(h:(l.map f)[k]?=aj d):∃q,l[k]?=aj q/\f q=d:=by
 rw[nu]at h;cases e:l[k]? with
 |none=>rw[e]at h;cases h
 |some q=>rw[e]at h;exact⟨q,rfl,jk.inj h⟩
theorem arI(P:Nat->aN->Gp->Prop)(h0:P 0 ρ G)(hs:∀k ρ G,P k ρ G->G p=aj (.rdc od ao kvs))
  (hb:∀k q ρ G,kvs[k]?=aj q->P k ρ G->tg (.tup [dkD q.1,q.2]) ρ λρ2=>tb {F with nx:=P (k+1),ct:=P (k+1),bk:=λρ G=>G p=aj (.rdc od ao kvs)/\F.nx ρ (aL G p (.lF ao kvs))} ρ2 G)
  (he:∀ρ G,P kvs.length ρ G->F.nx ρ (aL G p (.lF ao kvs))):aA9 (.itm p od kvs) tg tb F ρ G :=
 ⟨P,h0,λk ρ G _ q=>hs k ρ G q,λk d ρ G e q=>by obtain⟨z,e1,rfl⟩:=a6U e;exact hb k z ρ G e1 q,λρ G q=>he ρ G (by simpa[Src.items]using q)⟩
end
end L10
namespace L11
open PySem PySem.Spec PyProof.Rows L2 L4 L5 L6
def arJ(xs:List D)(G1:Gp)(R:Src->Gp->Prop):Prop:=match xs with
 |[.tup ds]=>ds.all scD=ak/\∀a,(G1 a=aq∨G1 a=aj (.tpl ds))->R (.enu a ds) (aL G1 a (.tpl ds))
 |[.ref a]=>∃ds,aM G1 a=aj ds/\R (.enl a ds) G1
 |_=>False
variable{ns:List Int}
section
variable{F:cQ}{p:bx}{xs:List D}{tg:TG3}
theorem arK:a1T ta ρ G Q=ta ρ G λxs G1=>arJ xs G1 Q:=rfl
theorem ay3(ns:List Int):(ns.map D.int).all scD=ak:=by
 rw[jq];rintro d hd;obtain⟨n,_,rfl⟩:=jz.mp hd;rfl
theorem arL(h:G a=aq∨G a=aj (.tpl xs)):Le G (aL G a (.tpl xs)):=λb u e=>by
 by_cases c:b=a
 .subst c;rcases h with h|h
  .rw[h]at e;cases e
  .rw[aH];rw[h]at e;exact e
 .rw[bC c];exact e
theorem arM(h:∀a,(G a=aq∨G a=aj (.tpl (ns.map D.int)))->Q (.enu a (ns.map D.int)) (aL G a (.tpl (ns.map D.int)))):arJ [.tup (ns.map D.int)] G Q:=⟨ay3 ns,h⟩
theorem alY(hs:xs.all scD=ak)(h:∀a,(G a=aq∨G a=aj (.tpl xs))->Q (.tpl a xs) (aL G a (.tpl xs))):ajM (.tup xs) G Q:=⟨hs,h⟩
theorem arN(P:Nat->aN->Gp->Prop)(h0:P 0 ρ G)(hs:∀k ρ G,P k ρ G->G p=aj (.tpl xs))
  (hb:∀k d ρ G,xs[k]?=aj d->P k ρ G->tg d ρ λρ2=>tb {F with nx:=P (k+1),ct:=P (k+1),bk:=F.nx} ρ2 G)(he:∀ρ G,P xs.length ρ G->F.nx ρ G):aaL (.tpl p xs) tg tb F ρ G :=
 ⟨P,h0,λk ρ G _ q=>hs k ρ G q,λk d ρ G e q=>hb k d ρ G e q,λρ G q=>he ρ G q⟩
theorem arO(P:Nat->aN->Gp->Prop)(h0:P 0 ρ G)(hs:∀k ρ G,P k ρ G->G p=aj (.tpl xs))
  (hb:∀k d ρ G,xs[k]?=aj d->P k ρ G->tg (.tup [.int k,d]) ρ λρ2=>tb {F with nx:=P (k+1),ct:=P (k+1),bk:=F.nx} ρ2 G)(he:∀ρ G,P xs.length ρ G->F.nx ρ G):aaL (.enu p xs) tg tb F ρ G:=by
 refine⟨P,h0,λk ρ G _ q=>hs k ρ G q,λk d ρ G e q=>?_,λρ G q=>he ρ G (by rw[←zZ];exact q)⟩
 have hk:k<xs.length:=by
  have:=(gj.mp e).1;rw[show(Src.enu p xs).items=enm xs from rfl,zZ]at this;exact this
 have e2:=abZ (gw hk);rw[show(Src.enu p xs).items=enm xs from rfl,e2]at e;cases e;exact hb k _ ρ G (gw hk) q
theorem ajQ{a b:Int}{ms:List Int}(h1:ltP b ms a ns=ak->R (.tup [.int b,.tup (ms.map D.int)]) G)(h2:ltP b ms a ns=ao->R (.tup [.int a,.tup (ns.map D.int)]) G):ac0 [.tup [.int a,.tup (ns.map D.int)],.tup [.int b,.tup (ms.map D.int)]] G R:=by
 refine⟨a,b,ns,ms,rfl,?_⟩;cases e:ltP b ms a ns with
 |true=>exact h1 e
 |false=>exact h2 e
end
end L11
namespace L12
open PySem PySem.Spec PyProof.Rows L2 L4 L5 L6
section
end
end L12
namespace L14
open PySem PySem.Spec PyProof.Rows L2 L4 L5 L6
section
variable{ρ:aN}{F:cQ}{p:bx}{R:fL}
theorem aFB:ac1 to ti tv F ρ G=tv ρ G λv G1=>to ρ G1 λx G2=>ti ρ G2 λy G3=>alM x y v F ρ G3:=rfl
noncomputable def ent(q:Int×Int):List Int×D:=([q.1,q.2],.bl ak)
noncomputable def setG(M:List (Int×Int)):GO:=.zJ (M.map ent)
noncomputable def v8(M:List (Int×Int))(q:Int×Int):List (Int×Int):=if q∈M then M else M++[q]
theorem aFC{q r:Int×Int}(h:[q.1,q.2]=[r.1,r.2]):q=r:=by
 injection h with h1 h2;injection h2 with h2;exact Prod.ext h1 h2
theorem ahF{q:Int×Int}:∀{M:List (Int×Int)},((M.map ent).lookup [q.1,q.2]).isSome=decide (q∈M)
 |[]=>rfl
 |r::M=>by
  rw[qd,ent,jo];by_cases c:q=r
  .subst c;simp
  .rw[show([q.1,q.2]==[r.1,r.2])=ao from beq_eq_false_iff_ne.mpr λe=>c (aFC e)];show((M.map ent).lookup [q.1,q.2]).isSome=_;rw[ahF];simp[c]
theorem ajR{M:List (Int×Int)}{q:Int×Int}:a1P (M.map ent) [q.1,q.2] (.bl ak)=(v8 M q).map ent:=by
 unfold a1P v8;rw[ahF];by_cases c:q∈M
 .rw[if_pos (decide_eq_true c),if_pos c,mj];refine a1o λr _=>?_;show(if(ent r).1=[q.1,q.2]then((ent r).1,D.bl ak)else ent r)=ent r;split<;>rfl
 .rw[if_neg (by simpa using c),if_neg c,zq];rfl
theorem ay4{i j:Int}(h:G p=aj (setG M))(k:R (.bl (decide ((i,j)∈M))) G):ae2 (.tup [.int i,.int j]) (.ref p) G R:=by
 show(match G p with
  |some (.zJ kvs)=>∃n:List Int,[D.int i,.int j]=n.map D.int/\R (.bl (kvs.lookup n).isSome) G
  |_=>False)
 rw[h];refine⟨[i,j],rfl,?_⟩;rw[ahF (q:=(i,j))];exact k
theorem ay5{M:List (Int×Int)}{i j:Int}(h:G p=aj (setG M))(hl:M.length<1000000)(k:F.nx ρ (aL G p (setG (v8 M (i,j))))):alM (.ref p) (.tup [.int i,.int j]) (.bl ak) F ρ G :=
 ⟨[i,j],_,rfl,h,.inr ⟨ak,rfl⟩,by rw[jc];exact hl,by rw[ajR (q:=(i,j))];exact k⟩
theorem alZ{M:List (Int×Int)}(h:G p=aj (setG M))(hl:M.length<=dg)(k:∀l,G l=aq->R (.ref l) (aL G l (.lst (M.map λq=>.tup [.int q.1,.int q.2])))):zY [.ref p] G R:=by
 refine⟨_,h,by rw[jc];exact hl,λl hl=>?_⟩;have:=k l hl;rw[mj];exact this
theorem af0:∀{M N:List (Int×Int)},foldM (N.map ent) (M.map ent)=(M.foldl v8 N).map ent
 |[],N=>rfl
 |q::M,N=>by
  show foldM (a1P (N.map ent) (ent q).1 (ent q).2) (M.map ent)=_;rw[show a1P (N.map ent) (ent q).1 (ent q).2=(v8 N q).map ent from ajR,af0];rfl
theorem am0{M:List (Int×Int)}(h:aM G p=aj (M.map λq=>.tup [.tup [.int q.1,.int q.2],.bl ak]))(k:∀r,G r=aq->R (.ref r) (aL G r (setG (M.foldl v8 [])))):wL [.ref p] G R:=by
 refine⟨M.map ent,?_,λz hz=>?_,λr hr=>?_⟩
 .rw[mj];exact h
 .obtain⟨q,_,rfl⟩:=jz.mp hz;exact .inr ⟨ak,rfl⟩
 .have:=af0 (M:=M) (N:=[]);rw[a2n]at this;rw[this];exact k r hr
set_option tactic.hygienic true in
theorem af2:r∈v8 M q↔r∈M∨r=q:=by
 unfold v8;split
 ·rename_i h;exact⟨.inl,λz=>z.elim id λz=>z ▸ h⟩
 .simp
theorem af3:∀{M N:List (Int×Int)},r∈M.foldl v8 N↔r∈N∨r∈M
 |[],N=>by simp
 |q::M,N=>by
  rw[List.foldl_cons,af3,af2,jm,or_assoc]
theorem arP(M:List (Int×Int))(q:Int×Int):(v8 M q).length<=M.length+1:=by
 unfold v8;split<;>simp
theorem aFD{kvs:List (List Int×D)}{n:List Int}(h:G p=aj (.zJ kvs))(e:kvs.lookup n=aj d)(k:R d G):pH (.ref p) (.tup (n.map D.int)) G R:=by
 show(match G p with
  |some (.zJ kvs)=>∃(m:List Int)(d:D),n.map D.int=m.map D.int/\kvs.lookup m=aj d/\R d G
  |_=>False)
 rw[h];exact⟨n,d,rfl,e,k⟩
def aFE(x:D)(T:bx)(c:qC)(ix:Nat)(sp:gW)(ρ:aN)(G1:Gp)(R:fL):Prop:=∃l ds dx,x=.ref l/\aM G1 l=aj ds/\ds.length<64/\at3 ρ ix=aj dx/\G1 T=aj (.tab c.qual c.pos)/\uY sp dx (λks G2=>a1U ds ks G2 R) ds [] G1
theorem ay6{ix:Nat}:ac2 te T c ix sp ρ G R=te ρ G λx G1=>aFE x T c ix sp ρ G1 R:=rfl
theorem arQ(hp:aM G p=aj xs)(h:Q (.enl p xs) G):L11.arJ [.ref p] G Q:=⟨xs,hp,h⟩
theorem ajS(f:D->D):∀(ds ks:List D)(G:Gp),(∀d∈ds,∀G',Le G G'->∀R:fL,(∀G'',Le G' G''->R (f d) G'')->sp [dx,d] G' R (λ_ _=>False))->(∀G',Le G G'->C (ks++ds.map f) G')->uY sp dx C ds ks G
 |[],ks,G,_,h=>by
  have:=h G (.refl G);rw[a2n,a1r]at this;exact this
 |d::ds,ks,G,hk,h=>hk d (qu ..) G (.refl G) _ λG1 l1=>ajS f ds (ks++[f d]) G1 (λe he G' l=>hk e (jw _ he) G' (l1.trans l)) λG' l=>by
   have:=h G' (l1.trans l);simpa using this
end
end L14
namespace Law
open PySem PySem.Spec PyProof.Rows L2 L4 PySem.W
noncomputable def top(i:Nat):kj:=PySem.Challenge.pw_depot_k76_no_plan_no_bin.main.body.getD i (.Pass ⟨0,0,0,0⟩)
noncomputable abbrev a6V:kj:=top 11
noncomputable abbrev aaM:kj:=top 12
noncomputable abbrev aaN:kj:=top 15
noncomputable abbrev a2X:kj:=top 16
noncomputable abbrev af4:kj:=top 17
noncomputable abbrev aaO:kj:=top 18
noncomputable abbrev aAA:kj:=top 19
noncomputable abbrev a6W:kj:=top 21
noncomputable abbrev oU:kj:=top 24
noncomputable abbrev a6X:kj:=top 25
noncomputable abbrev v9:kj:=top 26
noncomputable abbrev xT:kj:=top 27
noncomputable abbrev tR:kj:=top 28
noncomputable abbrev vA:kj:=top 29
noncomputable abbrev ajT:kj:=top 31
noncomputable abbrev a6Y:kj:=top 30
noncomputable abbrev arR:kj:=top 32
noncomputable abbrev af5:kj:=top 33
noncomputable abbrev tU:kj:=top 34
noncomputable abbrev ajU:kj:=top 35
noncomputable abbrev f9:kj:=top 37
noncomputable abbrev vB:kj:=top 39
noncomputable abbrev a09:kj:=top 40
noncomputable abbrev vC:kj:=top 41
noncomputable abbrev vD:kj:=top 42
noncomputable abbrev vG:kj:=top 43
noncomputable abbrev xU:kj:=top 44
noncomputable abbrev a0A:kj:=top 45
noncomputable abbrev a2Y:kj:=top 46
noncomputable abbrev af6:kj:=top 47
set_option genInjectivity false in
structure bF where
 a6Z:bx
 sG:ju
 aaP:bx
 wW:ju
 aaQ:bx
 wX:ju
 a2Z:bx
 oV:ju
 af7:bx
 a0B:ju
 aaR:bx
 wY:ju
 aAB:bx
 ajV:ju
 a70:bx
 sH:ju
 oW:bx
 fQ:ju
 a71:bx
 sI:ju
 vH:bx
 j9:ju
 xV:bx
 lC:ju
 tV:bx
 iK:ju
 vI:bx
 jA:ju
 ajW:bx
 a4S:ju
 a72:bx
 sJ:ju
 arS:bx
 acD:ju
 af8:bx
 a0C:ju
 tW:bx
 iM:ju
 ajX:bx
 a4T:ju
 af9:bx
 vJ:ju
 vK:bx
 jB:ju
 a0D:bx
 mR:ju
 vL:bx
 jC:ju
 vM:bx
 jD:ju
 vN:bx
 jE:ju
 xW:bx
 lD:ju
 a0E:bx
 mU:ju
 a3A:bx
 oX:ju
 a73:bx
 aAC:ju
 gC:bx
 c7:bx
 qI:bx
 cA:bx
 oY:bx
 fV:bx
 wZ:bx
 cI:bx
 a0F:bx
def yL(base:jj)(mg:Str->Option bh)(A:bF):Prop:=base.BuiltinsAt mg A.cI/\CodeHd base A.a0F A.cI
noncomputable def sO(K:Fg)(A:bF)(ex:aN->aX):bI :=
  (bL (nJ (cU (aD K) (aA (aB 0) (aA (aO (.ty "int")) aC))) (nJ (a5Q (cU (aD K) (aA (aB 0) (aA (aO (.ty "bool")) aC)))) (oN adJ adJ (aB 1) (aB 0) (aB 2)))))
noncomputable def dF(K:Fg)(A:bF):gW:=wQ 3 3 λEX=>sO K A (λ_=>EX)
noncomputable def ahG:CB:=(.cons (.ret (.ah6 (.cons (.call 1 (.cons (.var 0) (.cons (.glo 0) .nil))) (.cons (.aq6 (.call 1 (.cons (.var 0) (.cons (.glo 2) .nil)))) (.cons (.chain .LtE .LtE (.var 1) (.var 0) (.var 2)) .nil))))) .nil)
noncomputable def ahH(K:Fg)(A:bF):SI:=⟨["thing","least","most"],[ak,ak,ak],[ak,ak,ak],[ao,ao,ao],[("int",.bt "int"),("isinstance",.bf .isi),("bool",.bt "bool")],[ak,ak,ak],ak,ao⟩
noncomputable def a3B(K:Fg)(A:bF)(ex:aN->aX):bI :=
  (bL (nJ (aU (dF K A) ex (aA (aG bR (aB 0) (aO (.int 0))) (aA (aO (.int 0)) (aA (aG tO (aB 1) (aO (.int 1))) aC)))) (aU (dF K A) ex (aA (aG bR (aB 0) (aO (.int 1))) (aA (aB 2) (aA (aB 3) aC))))))
noncomputable def qJ(K:Fg)(A:bF)(ex:aN->aX):bI :=
  aR (cG (uD (j6 (aQ (cU (aD K) (aA (aB 0) (aA (aO (.ty "tuple")) aC))))) (aQ (aG a3O (cU m7 (aA (aB 0) aC)) (aO (.int 2))))) (bL (aO (.bl ao))) bO) (a3B K A ex)
noncomputable def jV(K:Fg)(A:bF):gW:=wQ 4 4 λEX=>qJ K A (λ_=>EX)
noncomputable def am1:CB:=(.cons (.ifs (.or (.cons (.not (.val (.call 1 (.cons (.var 0) (.cons (.glo 0) .nil))))) (.cons (.cmp .NotEq (.call 2 (.cons (.var 0) .nil)) (.con (.int 2))) .nil))) (.cons (.ret (.con (.bl ao))) .nil) .nil) (.cons (.ret (.ah6 (.cons (.call 3 (.cons (.ix (.var 0) (.con (.int 0))) (.cons (.con (.int 0)) (.cons (.bin .Sub (.var 1) (.con (.int 1))) .nil)))) (.cons (.call 3 (.cons (.ix (.var 0) (.con (.int 1))) (.cons (.var 2) (.cons (.var 3) .nil)))) .nil)))) .nil))
noncomputable def am2(K:Fg)(A:bF):SI:=⟨["thing","aisles","first","last"],[ak,ak,ak,ak],[ak,ak,ak,ak],[ao,ao,ao,ao],[("tuple",.bt "tuple"),("isinstance",.bf .isi),("len",.bf .len),("is_whole",.fn (dF K A) 3 ao)],[ak,ak,ak,ak],ak,ao⟩
noncomputable def a3C(K:Fg)(A:bF)(ex:aN->aX):bI :=
  (bL (aU (dF K A) ex (aA (aG bR (aB 0) (aO (.int 2))) (aA (aO (.int 1)) (aA (aO (.int 20)) aC)))))
noncomputable def a3D(K:Fg)(A:bF)(ex:aN->aX):bI :=
  aR (cG (uD (j6 (aQ (aU (dF K A) ex (aA (aG bR (aB 0) (aO (.int 0))) (aA (aO (.int 1)) (aA (aO (.int 26)) aC)))))) (j6 (aQ (aU (dF K A) ex (aA (aG bR (aB 0) (aO (.int 1))) (aA (aO (.int 1)) (aA (aO (.int 99)) aC))))))) (bL (aO (.bl ao))) bO) (a3C K A ex)
noncomputable def qK(K:Fg)(A:bF)(ex:aN->aX):bI :=
  aR (cG (uD (j6 (aQ (cU (aD K) (aA (aB 0) (aA (aO (.ty "tuple")) aC))))) (aQ (aG a3O (cU m7 (aA (aB 0) aC)) (aO (.int 3))))) (bL (aO (.bl ao))) bO) (a3D K A ex)
noncomputable def sU(K:Fg)(A:bF):gW:=wQ 1 1 λEX=>qK K A (λ_=>EX)
noncomputable def am3:CB:=(.cons (.ifs (.or (.cons (.not (.val (.call 1 (.cons (.var 0) (.cons (.glo 0) .nil))))) (.cons (.cmp .NotEq (.call 2 (.cons (.var 0) .nil)) (.con (.int 3))) .nil))) (.cons (.ret (.con (.bl ao))) .nil) .nil) (.cons (.ifs (.or (.cons (.not (.val (.call 4 (.cons (.ix (.var 0) (.con (.int 0))) (.cons (.con (.int 1)) (.cons (.glo 3) .nil)))))) (.cons (.not (.val (.call 4 (.cons (.ix (.var 0) (.con (.int 1))) (.cons (.con (.int 1)) (.cons (.glo 5) .nil)))))) .nil))) (.cons (.ret (.con (.bl ao))) .nil) .nil) (.cons (.ret (.call 4 (.cons (.ix (.var 0) (.con (.int 2))) (.cons (.con (.int 1)) (.cons (.glo 6) .nil))))) .nil)))
noncomputable def am4(K:Fg)(A:bF):SI:=⟨["thing"],[ak],[ak],[ao],[("tuple",.bt "tuple"),("isinstance",.bf .isi),("len",.bf .len),("MOST_AISLES",.con (.int 26)),("is_whole",.fn (dF K A) 3 ao),("MOST_PLACES",.con (.int 99)),("MOST_GAP",.con (.int 20))],[ak,ak,ak,ak,ak,ak,ak],ak,ao⟩
noncomputable def vO(K:Fg)(A:bF)(ex:aN->aX):bI :=
  (cG (j6 (aQ (aU (sU K A) ex (aA (aB 0) aC)))) (rO ex A.c7 (aA (aO (.str "a tuple of 1 to 26 aisles, 1 to 99 places and a gap from 1 to 20 is wanted")) aC)) bO)
noncomputable def bN(K:Fg)(A:bF):gW:=wQ 1 1 λEX=>vO K A (λ_=>EX)
noncomputable def afA:CB:=(.cons (.ifs (.not (.val (.call 0 (.cons (.var 0) .nil)))) (.cons (.raise 1 (.con (.str "a tuple of 1 to 26 aisles, 1 to 99 places and a gap from 1 to 20 is wanted")) .nil) .nil) .nil) .nil)
noncomputable def afB(K:Fg)(A:bF):SI:=⟨["plan"],[ak],[ak],[ao],[("is_plan",.fn (sU K A) 1 ao),("NoPlan",.cls A.c7)],[ak,ak],ak,ao⟩
noncomputable def a74(K:Fg)(A:bF)(ex:aN->aX):bI :=
  (bL (aU (jV K A) ex (aA (aB 1) (aA (aG bR (aB 0) (aO (.int 0))) (aA (aO (.int 1)) (aA (aG bR (aB 0) (aO (.int 1))) aC))))))
noncomputable def a75(K:Fg)(A:bF)(ex:aN->aX):bI :=
  aR (cZ (aU (bN K A) ex (aA (aB 0) aC))) (a74 K A ex)
noncomputable def xA(K:Fg)(A:bF):gW:=wQ 2 2 λEX=>a75 K A (λ_=>EX)
noncomputable def arT:CB:=(.cons (.expr (.call 0 (.cons (.var 0) .nil))) (.cons (.ret (.call 1 (.cons (.var 1) (.cons (.ix (.var 0) (.con (.int 0))) (.cons (.con (.int 1)) (.cons (.ix (.var 0) (.con (.int 1))) .nil)))))) .nil))
noncomputable def arU(K:Fg)(A:bF):SI:=⟨["plan","thing"],[ak,ak],[ak,ak],[ao,ao],[("need_plan",.fn (bN K A) 1 ao),("is_pair",.fn (jV K A) 4 ao)],[ak,ak],ak,ao⟩
noncomputable def afC(K:Fg)(A:bF)(ex:aN->aX):bI :=
  (bL (aU (jV K A) ex (aA (aB 1) (aA (aG bR (aB 0) (aO (.int 0))) (aA (aO (.int 0)) (aA (aG dD (aG bR (aB 0) (aO (.int 1))) (aO (.int 1))) aC))))))
noncomputable def am5(K:Fg)(A:bF)(ex:aN->aX):bI :=
  aR (cZ (aU (bN K A) ex (aA (aB 0) aC))) (afC K A ex)
noncomputable def sV(K:Fg)(A:bF):gW:=wQ 2 2 λEX=>am5 K A (λ_=>EX)
noncomputable def am6:CB:=(.cons (.expr (.call 0 (.cons (.var 0) .nil))) (.cons (.ret (.call 1 (.cons (.var 1) (.cons (.ix (.var 0) (.con (.int 0))) (.cons (.con (.int 0)) (.cons (.bin .Add (.ix (.var 0) (.con (.int 1))) (.con (.int 1))) .nil)))))) .nil))
noncomputable def am7(K:Fg)(A:bF):SI:=⟨["plan","thing"],[ak,ak],[ak,ak],[ao,ao],[("need_plan",.fn (bN K A) 1 ao),("is_pair",.fn (jV K A) 4 ao)],[ak,ak],ak,ao⟩
noncomputable def ay7(K:Fg)(A:bF)(ex:aN->aX):bI :=
  (bL (aG dD (aG pQ (aG bR (aB 0) (aO (.int 2))) (cU a9X (aA (aG tO (aG bR (aB 1) (aO (.int 0))) (aG bR (aB 2) (aO (.int 0)))) aC))) (cU a1O (aA (aB 3) (aA (aB 4) aC)))))
noncomputable def ay8(K:Fg)(A:bF)(ex:aN->aX):bI :=
  aR (bZ 4 (aG tO (aG pQ (aO (.int 2)) (aG dD (aG bR (aB 0) (aO (.int 1))) (aO (.int 1)))) (aB 3))) (ay7 K A ex)
noncomputable def ay9(K:Fg)(A:bF)(ex:aN->aX):bI :=
  aR (bZ 3 (aG dD (aG bR (aB 1) (aO (.int 1))) (aG bR (aB 2) (aO (.int 1))))) (ay8 K A ex)
noncomputable def ayA(K:Fg)(A:bF)(ex:aN->aX):bI :=
  aR (cG (aQ (aG uE (aG bR (aB 1) (aO (.int 0))) (aG bR (aB 2) (aO (.int 0))))) (bL (cU a9X (aA (aG tO (aG bR (aB 1) (aO (.int 1))) (aG bR (aB 2) (aO (.int 1)))) aC))) bO) (ay9 K A ex)
noncomputable def aKR(K:Fg)(A:bF)(ex:aN->aX):bI :=
  aR (cG (uD (j6 (aQ (aU (sV K A) ex (aA (aB 0) (aA (aB 1) aC))))) (j6 (aQ (aU (sV K A) ex (aA (aB 0) (aA (aB 2) aC)))))) (rO ex A.cA (aA (aO (.str "two spots of the plan are wanted")) aC)) bO) (ayA K A ex)
noncomputable def ahI(K:Fg)(A:bF):gW:=wQ 5 3 λEX=>aKR K A (λ_=>EX)
noncomputable def aKS:CB:=(.cons (.ifs (.or (.cons (.not (.val (.call 0 (.cons (.var 0) (.cons (.var 1) .nil))))) (.cons (.not (.val (.call 0 (.cons (.var 0) (.cons (.var 2) .nil))))) .nil))) (.cons (.raise 1 (.con (.str "two spots of the plan are wanted")) .nil) .nil) .nil) (.cons (.ifs (.cmp .Eq (.ix (.var 1) (.con (.int 0))) (.ix (.var 2) (.con (.int 0)))) (.cons (.ret (.call 2 (.cons (.bin .Sub (.ix (.var 1) (.con (.int 1))) (.ix (.var 2) (.con (.int 1)))) .nil))) .nil) .nil) (.cons (.set 3 (.bin .Add (.ix (.var 1) (.con (.int 1))) (.ix (.var 2) (.con (.int 1))))) (.cons (.set 4 (.bin .Sub (.bin .Mult (.con (.int 2)) (.bin .Add (.ix (.var 0) (.con (.int 1))) (.con (.int 1)))) (.var 3))) (.cons (.ret (.bin .Add (.bin .Mult (.ix (.var 0) (.con (.int 2))) (.call 2 (.cons (.bin .Sub (.ix (.var 1) (.con (.int 0))) (.ix (.var 2) (.con (.int 0)))) .nil))) (.call 3 (.cons (.var 3) (.cons (.var 4) .nil))))) .nil)))))
noncomputable def aKT(K:Fg)(A:bF):SI:=⟨["plan","one","other","by_front","by_back"],[ak,ak,ak,ak,ak],[ak,ak,ak,ak,ak],[ao,ao,ao,ao,ao],[("is_spot",.fn (sV K A) 2 ao),("NoBin",.cls A.cA),("abs",.bf .abs),("min",.bf .min)],[ak,ak,ak,ak],ak,ao⟩
noncomputable def yM(K:Fg)(A:bF)(ex:aN->aX):bI :=
  (cG (j6 (aQ (aU (xA K A) ex (aA (aB 0) (aA (aB 1) aC))))) (rO ex A.cA (aA (aO (.str "a bin of the plan is wanted")) aC)) bO)
noncomputable def oZ(K:Fg)(A:bF):gW:=wQ 2 2 λEX=>yM K A (λ_=>EX)
noncomputable def ahJ:CB:=(.cons (.ifs (.not (.val (.call 0 (.cons (.var 0) (.cons (.var 1) .nil))))) (.cons (.raise 1 (.con (.str "a bin of the plan is wanted")) .nil) .nil) .nil) .nil)
noncomputable def ahK(K:Fg)(A:bF):SI:=⟨["plan","thing"],[ak,ak],[ak,ak],[ao,ao],[("is_bin",.fn (xA K A) 2 ao),("NoBin",.cls A.cA)],[ak,ak],ak,ao⟩
noncomputable def lJ(K:Fg)(A:bF)(ex:aN->aX):bI :=
  (cZ (tM3 "list" lG (aG bR (aB 2) (aB 3)) (aA (aB 4) aC)))
noncomputable def m8(K:Fg)(A:bF)(ex:aN->aX):bI :=
  (bL (aB 2))
noncomputable def gR(K:Fg)(A:bF)(ex:aN->aX):bI :=
  aR (jT (abM (aB 0)) (a2S [3,4]) (lJ K A ex)) (m8 K A ex)
noncomputable def gU(K:Fg)(A:bF)(ex:aN->aX):bI :=
  aR (a6D 3 (bZ 2 (uU (uT (aA (aG dD (aB 1) (aO (.int 1))) aC)) lV (gY aC)))) (gR K A ex)
noncomputable def jF(K:Fg)(A:bF)(ex:aN->aX):bI :=
  aR (a6D 3 (a6D 4 (bZ 1 (aj4 (a4K 2 (uR (aB 0)) lV (aB 0)) (a9V (aO (.int 1))))))) (gU K A ex)
noncomputable def eU(K:Fg)(A:bF):gW:=wQ 5 1 λEX=>jF K A (λ_=>EX)
noncomputable def a0G:CB:=(.cons (.hid 3 "-" (.hid 4 "--" (.set 1 (.maxD 0 (.aaG 2 [ao,ao,ao,ao,ao] [ao,ao] (.any (.var 0)) .none (.var 0)) (.neg (.con (.int 1))))))) (.cons (.hid 3 "-" (.setC 2 [ao,ao,ao,ao,ao] [ao,ao] (.ac3 (.bin .Add (.var 1) (.con (.int 1)))) .none (.lst .nil))) (.cons (.a1V (.any (.var 0)) (.tup [3,4]) (.cons (.expr (.meth .append (.ix (.var 2) (.var 3)) (.cons (.var 4) .nil))) .nil)) (.cons (.ret (.var 2)) .nil))))
noncomputable def a0H(K:Fg)(A:bF):SI:=⟨["bins","last","aisles","aisle","place"],[ak,ak,ak,ak,ak],[ak,ak,ak,ak,ak],[ao,ao,ao,ao,ao],[("max",.bf .max),("range",.bt "range")],[ak,ak],ak,ao⟩
noncomputable def yN(K:Fg)(A:bF)(ex:aN->aX):bI :=
  (bL (ao6 (aQ (aG uE (aB 1) (aO (.int 0)))) (cU a65 (aA (aB 0) aC)) (cU a1O (aA (aB 0) aC))))
noncomputable def j4(K:Fg)(A:bF):gW:=wQ 2 2 λEX=>yN K A (λ_=>EX)
noncomputable def ahL:CB:=(.cons (.ret (.ifx (.cmp .Eq (.var 1) (.con (.int 0))) (.call 0 (.cons (.var 0) .nil)) (.call 1 (.cons (.var 0) .nil)))) .nil)
noncomputable def ahM(K:Fg)(A:bF):SI:=⟨["places","end"],[ak,ak],[ak,ak],[ao,ao],[("max",.bf .max),("min",.bf .min)],[ak,ak],ak,ao⟩
noncomputable def qL(K:Fg)(A:bF)(ex:aN->aX):bI :=
  (bL (aG pQ (aO (.int 2)) (cU a9X (aA (aG tO (aU (j4 K A) ex (aA (aB 1) (aA (aB 2) aC))) (aB 2)) aC))))
noncomputable def qM(K:Fg)(A:bF)(ex:aN->aX):bI :=
  aR (cG (aQ (aG uE (cU m7 (aA (aB 1) aC)) (aO (.int 0)))) (bL (aO (.int 0))) bO) (qL K A ex)
noncomputable def nR(K:Fg)(A:bF)(ex:aN->aX):bI :=
  aR (cG (aQ (aG a3O (aB 3) (aB 2))) (bL (aG dD (aG bR (aB 0) (aO (.int 1))) (aO (.int 1)))) bO) (qM K A ex)
noncomputable def iQ(K:Fg)(A:bF):gW:=wQ 4 4 λEX=>nR K A (λ_=>EX)
noncomputable def a76:CB:=(.cons (.ifs (.cmp .NotEq (.var 3) (.var 2)) (.cons (.ret (.bin .Add (.ix (.var 0) (.con (.int 1))) (.con (.int 1)))) .nil) .nil) (.cons (.ifs (.cmp .Eq (.call 0 (.cons (.var 1) .nil)) (.con (.int 0))) (.cons (.ret (.con (.int 0))) .nil) .nil) (.cons (.ret (.bin .Mult (.con (.int 2)) (.call 2 (.cons (.bin .Sub (.call 1 (.cons (.var 1) (.cons (.var 2) .nil))) (.var 2)) .nil)))) .nil)))
noncomputable def a77(K:Fg)(A:bF):SI:=⟨["plan","places","end","goal"],[ak,ak,ak,ak],[ak,ak,ak,ak],[ao,ao,ao,ao],[("len",.bf .len),("farthest",.fn (j4 K A) 2 ao),("abs",.bf .abs)],[ak,ak,ak],ak,ao⟩
noncomputable def m9(K:Fg)(A:bF)(ex:aN->aX):bI :=
  (abR (aB 3) (aB 6) (cU ac0 (aA (a4P (aB 3) (aB 6) (aB 7)) (aA (aB 7) aC))))
noncomputable def jG(K:Fg)(A:bF)(ex:aN->aX):bI :=
  aR (bZ 7 (bV (aA (aG dD (aG bR (aB 5) (aO (.int 0))) (aU (iQ K A) ex (aA (aB 0) (aA (aB 1) (aA (aB 4) (aA (aB 6) aC)))))) (aA (aG dD (aG bR (aB 5) (aO (.int 1))) (bV (aA (aB 6) aC))) aC)))) (m9 K A ex)
noncomputable def qN(K:Fg)(A:bF)(ex:aN->aX):bI :=
  (jT (abM (bV (aA (aO (.int 0)) (aA (aG dD (aG bR (aB 0) (aO (.int 1))) (aO (.int 1))) aC)))) (nO 6) (jG K A ex))
noncomputable def tX(K:Fg)(A:bF)(ex:aN->aX):bI :=
  (bL (aB 3))
noncomputable def tY(K:Fg)(A:bF)(ex:aN->aX):bI :=
  aR (a4Q (mL ao (aB 2)) (a2S [4,5]) (qN K A ex)) (tX K A ex)
noncomputable def pI(K:Fg)(A:bF)(ex:aN->aX):bI :=
  aR (bZ 3 abI) (tY K A ex)
noncomputable def jH(K:Fg)(A:bF):gW:=wQ 8 3 λEX=>pI K A (λ_=>EX)
noncomputable def a90:CB:=(.cons (.set 3 .dct) (.cons (.awU (.items (.var 2)) (.tup [4,5]) (.cons (.a1V (.any (.tup (.cons (.con (.int 0)) (.cons (.bin .Add (.ix (.var 0) (.con (.int 1))) (.con (.int 1))) .nil)))) (.nm 6) (.cons (.set 7 (.tup (.cons (.bin .Add (.ix (.var 5) (.con (.int 0))) (.call 0 (.cons (.var 0) (.cons (.var 1) (.cons (.var 4) (.cons (.var 6) .nil)))))) (.cons (.bin .Add (.ix (.var 5) (.con (.int 1))) (.tup (.cons (.var 6) .nil))) .nil)))) (.cons (.awV (.var 3) (.var 6) (.call 1 (.cons (.dgt (.var 3) (.var 6) (.var 7)) (.cons (.var 7) .nil)))) .nil))) .nil)) (.cons (.ret (.var 3)) .nil)))
noncomputable def a91(K:Fg)(A:bF):SI:=⟨["plan","places","ways","found","end","way","goal","one"],[ak,ak,ak,ak,ak,ak,ak,ak],[ak,ak,ak,ak,ak,ak,ak,ak],[ao,ao,ao,ao,ao,ao,ao,ao],[("steps_within",.fn (iQ K A) 4 ao),("min",.bf .awM)],[ak,ak],ak,ao⟩
noncomputable def nU(K:Fg)(A:bF)(ex:aN->aX):bI :=
  (bZ 2 (aU (jH K A) ex (aA (aB 0) (aA (aB 3) (aA (aB 2) aC)))))
noncomputable def p7(K:Fg)(A:bF)(ex:aN->aX):bI :=
  (bL (aG bR (aG pH (aB 2) (aO (.int 0))) (aO (.int 1))))
noncomputable def p8(K:Fg)(A:bF)(ex:aN->aX):bI :=
  aR (jT (abM (aB 1)) (nO 3) (nU K A ex)) (p7 K A ex)
noncomputable def lX(K:Fg)(A:bF)(ex:aN->aX):bI :=
  aR (bZ 2 (abY ao (aO (.int 0)) (bV (aA (aO (.int 0)) (aA (bV aC) aC))))) (p8 K A ex)
noncomputable def gF(K:Fg)(A:bF):gW:=wQ 4 2 λEX=>lX K A (λ_=>EX)
noncomputable def a3Q:CB:=(.cons (.set 2 (.awO ao (.con (.int 0)) (.tup (.cons (.con (.int 0)) (.cons (.tup .nil) .nil))))) (.cons (.a1V (.any (.var 1)) (.nm 3) (.cons (.set 2 (.call 0 (.cons (.var 0) (.cons (.var 3) (.cons (.var 2) .nil))))) .nil)) (.cons (.ret (.ix (.dix (.var 2) (.con (.int 0))) (.con (.int 1)))) .nil)))
noncomputable def a3R(K:Fg)(A:bF):SI:=⟨["plan","aisles","ways","places"],[ak,ak,ak,ak],[ak,ak,ak,ak],[ao,ao,ao,ao],[("ways_behind",.fn (jH K A) 3 ao)],[ak],ak,ao⟩
noncomputable def qO(K:Fg)(A:bF)(ex:aN->aX):bI :=
  (bL (gY (aA (bV (aA (aB 0) (aA (aB 2) aC))) (aA (bV (aA (aB 0) (aA (aU (j4 K A) ex (aA (aB 1) (aA (aB 2) aC))) aC))) (aA (bV (aA (aB 0) (aA (aB 2) aC))) aC)))))
noncomputable def qP(K:Fg)(A:bF)(ex:aN->aX):bI :=
  aR (cG (aQ (aG uE (cU m7 (aA (aB 1) aC)) (aO (.int 0)))) (bL (gY aC)) bO) (qO K A ex)
noncomputable def nW(K:Fg)(A:bF)(ex:aN->aX):bI :=
  aR (cG (aQ (aG a3O (aB 3) (aB 2))) (bL (gY (aA (bV (aA (aB 0) (aA (aB 2) aC))) (aA (bV (aA (aB 0) (aA (aB 3) aC))) aC)))) bO) (qP K A ex)
noncomputable def iR(K:Fg)(A:bF):gW:=wQ 4 4 λEX=>nW K A (λ_=>EX)
noncomputable def a78:CB:=(.cons (.ifs (.cmp .NotEq (.var 3) (.var 2)) (.cons (.ret (.lst (.cons (.tup (.cons (.var 0) (.cons (.var 2) .nil))) (.cons (.tup (.cons (.var 0) (.cons (.var 3) .nil))) .nil)))) .nil) .nil) (.cons (.ifs (.cmp .Eq (.call 0 (.cons (.var 1) .nil)) (.con (.int 0))) (.cons (.ret (.lst .nil)) .nil) .nil) (.cons (.ret (.lst (.cons (.tup (.cons (.var 0) (.cons (.var 2) .nil))) (.cons (.tup (.cons (.var 0) (.cons (.call 1 (.cons (.var 1) (.cons (.var 2) .nil))) .nil))) (.cons (.tup (.cons (.var 0) (.cons (.var 2) .nil))) .nil))))) .nil)))
noncomputable def a79(K:Fg)(A:bF):SI:=⟨["aisle","places","end","goal"],[ak,ak,ak,ak],[ak,ak,ak,ak],[ao,ao,ao,ao],[("len",.bf .len),("farthest",.fn (j4 K A) 2 ao)],[ak,ak],ak,ao⟩
noncomputable def acE(K:Fg)(A:bF)(ex:aN->aX):bI :=
  (cG (aQ (aG a3O (aG bR (aB 0) (a9V (aO (.int 1)))) (aB 1))) (cZ (tM3 "list" lG (aB 0) (aA (aB 1) aC))) bO)
noncomputable def vP(K:Fg)(A:bF):gW:=wQ 2 2 λEX=>acE K A (λ_=>EX)
noncomputable def ayB:CB:=(.cons (.ifs (.cmp .NotEq (.ix (.var 0) (.neg (.con (.int 1)))) (.var 1)) (.cons (.expr (.meth .append (.var 0) (.cons (.var 1) .nil))) .nil) .nil) .nil)
noncomputable def ayC(K:Fg)(A:bF):SI:=⟨["spots","spot"],[ak,ak],[ak,ak],[ao,ao],[],[],ak,ao⟩
noncomputable def nY(K:Fg)(A:bF)(ex:aN->aX):bI :=
  (cZ (aU (vP K A) ex (aA (aB 2) (aA (aB 6) aC))))
noncomputable def tZ(K:Fg)(A:bF)(ex:aN->aX):bI :=
  (bZ 3 (aB 5))
noncomputable def xX(K:Fg)(A:bF)(ex:aN->aX):bI :=
  aR (jT (abM (aU (iR K A) ex (aA (aB 4) (aA (aG bR (aB 0) (aB 4)) (aA (aB 3) (aA (aB 5) aC)))))) (nO 6) (nY K A ex)) (tZ K A ex)
noncomputable def a0I(K:Fg)(A:bF)(ex:aN->aX):bI :=
  (bL (aB 2))
noncomputable def a0J(K:Fg)(A:bF)(ex:aN->aX):bI :=
  aR (cZ (aU (vP K A) ex (aA (aB 2) (aA (aO (.tup [.int 0,.int 0])) aC)))) (a0I K A ex)
noncomputable def a0K(K:Fg)(A:bF)(ex:aN->aX):bI :=
  aR (jT (a1T (aA (aB 1) aC)) (a2S [4,5]) (xX K A ex)) (a0J K A ex)
noncomputable def a0L(K:Fg)(A:bF)(ex:aN->aX):bI :=
  aR (bZ 3 (aO (.int 0))) (a0K K A ex)
noncomputable def yO(K:Fg)(A:bF)(ex:aN->aX):bI :=
  aR (bZ 2 (gY (aA (aO (.tup [.int 0,.int 0])) aC))) (a0L K A ex)
noncomputable def pA(K:Fg)(A:bF):gW:=wQ 7 2 λEX=>yO K A (λ_=>EX)
noncomputable def ahN:CB:=(.cons (.set 2 (.lst (.cons (.glo 0) .nil))) (.cons (.set 3 (.con (.int 0))) (.cons (.a1V (.enu (.var 1)) (.tup [4,5]) (.cons (.a1V (.any (.call 2 (.cons (.var 4) (.cons (.ix (.var 0) (.var 4)) (.cons (.var 3) (.cons (.var 5) .nil)))))) (.nm 6) (.cons (.expr (.call 3 (.cons (.var 2) (.cons (.var 6) .nil)))) .nil)) (.cons (.set 3 (.var 5)) .nil))) (.cons (.expr (.call 3 (.cons (.var 2) (.cons (.glo 0) .nil)))) (.cons (.ret (.var 2)) .nil)))))
noncomputable def ahO(K:Fg)(A:bF):SI:=⟨["aisles","ends","spots","end","aisle","goal","spot"],[ak,ak,ak,ak,ak,ak,ak],[ak,ak,ak,ak,ak,ak,ak],[ao,ao,ao,ao,ao,ao,ao],[("DOOR",.con (.tup [.int 0,.int 0])),("enumerate",.bt "enumerate"),("spots_within",.fn (iR K A) 4 ao),("go_to",.fn (vP K A) 2 ao)],[ak,ak,ak,ak],ak,ao⟩
noncomputable def a1Y(K:Fg)(A:bF)(ex:aN->aX):bI :=
  (cZ (aU (oZ K A) ex (aA (aB 0) (aA (aB 2) aC))))
noncomputable def afD(K:Fg)(A:bF)(ex:aN->aX):bI :=
  (bL (aU (pA K A) ex (aA (aB 3) (aA (aU (gF K A) ex (aA (aB 0) (aA (aB 3) aC))) aC))))
noncomputable def afE(K:Fg)(A:bF)(ex:aN->aX):bI :=
  aR (bZ 3 (aU (eU K A) ex (aA (aB 1) aC))) (afD K A ex)
noncomputable def a7A(K:Fg)(A:bF)(ex:aN->aX):bI :=
  aR (jT (abM (aB 1)) (nO 2) (a1Y K A ex)) (afE K A ex)
noncomputable def yP(K:Fg)(A:bF)(ex:aN->aX):bI :=
  aR (cZ (aU (bN K A) ex (aA (aB 0) aC))) (a7A K A ex)
noncomputable def mV(K:Fg)(A:bF):gW:=wQ 4 2 λEX=>yP K A (λ_=>EX)
noncomputable def aFF:CB:=(.cons (.expr (.call 0 (.cons (.var 0) .nil))) (.cons (.a1V (.any (.var 1)) (.nm 2) (.cons (.expr (.call 1 (.cons (.var 0) (.cons (.var 2) .nil)))) .nil)) (.cons (.set 3 (.call 2 (.cons (.var 1) .nil))) (.cons (.ret (.call 4 (.cons (.var 3) (.cons (.call 3 (.cons (.var 0) (.cons (.var 3) .nil))) .nil)))) .nil))))
noncomputable def aFG(K:Fg)(A:bF):SI:=⟨["plan","bins","spot","aisles"],[ak,ak,ak,ak],[ak,ak,ak,ak],[ao,ao,ao,ao],[("need_plan",.fn (bN K A) 1 ao),("need_bin",.fn (oZ K A) 2 ao),("places_by_aisle",.fn (eU K A) 1 ao),("shortest_ends",.fn (gF K A) 2 ao),("spots_by",.fn (pA K A) 2 ao)],[ak,ak,ak,ak,ak],ak,ao⟩
noncomputable def a7B(K:Fg)(A:bF)(ex:aN->aX):bI :=
  (bL (cU adX (aA (a4K 2 (a2T (aA (aB 1) (aA (wJ (aB 1) (a1I (aO (.int 1))) pR) aC))) lV (aU (ahI K A) NoX (aA (aB 2) (aA (aB 0) (aA (aB 1) aC))))) aC)))
noncomputable def vQ(K:Fg)(A:bF)(ex:aN->aX):bI :=
  aR (cZ (aU (bN K A) ex (aA (aB 0) aC))) (a7B K A ex)
noncomputable def n6(K:Fg)(A:bF):gW:=wQ 2 2 λEX=>vQ K A (λ_=>EX)
noncomputable def arV:CB:=(.cons (.expr (.call 0 (.cons (.var 0) .nil))) (.cons (.ret (.call 3 (.cons (.aaG 2 [ak,ao] [ao,ao,ak,ao] (.zip (.var 1) (.sl (.var 1) (.some (.con (.int 1))) .none)) .none (.call 2 (.cons (.var 2) (.cons (.var 0) (.cons (.var 1) .nil))))) .nil))) .nil))
noncomputable def arW(K:Fg)(A:bF):SI:=⟨["plan","spots"],[ak,ak],[ao,ak],[ak,ao],[("need_plan",.fn (bN K A) 1 ao),("zip",.bt "zip"),("far",.fn (ahI K A) 3 ao),("sum",.bf .sum)],[ak,ak,ao,ak],ak,ao⟩
noncomputable def jJ(K:Fg)(A:bF)(ex:aN->aX):bI :=
  (bL (uU (a1R (aA (aG bR (aB 0) (aO (.int 1))) (aA (aG dD (aG bR (aB 1) (aO (.int 1))) (aB 2)) (aA (aB 2) aC)))) lV (bV (aA (aG bR (aB 1) (aO (.int 0))) (aA (aB 0) aC)))))
noncomputable def pB(K:Fg)(A:bF)(ex:aN->aX):bI :=
  aR (bZ 2 (ao6 (aQ (aG adI (aG bR (aB 0) (aO (.int 1))) (aG bR (aB 1) (aO (.int 1))))) (aO (.int 1)) (a9V (aO (.int 1))))) (jJ K A ex)
noncomputable def lY(K:Fg)(A:bF)(ex:aN->aX):bI :=
  aR (cG (aQ (aG a3O (aG bR (aB 0) (aO (.int 0))) (aG bR (aB 1) (aO (.int 0))))) (bL (gY (aA (aB 0) (aA (aB 1) aC)))) bO) (pB K A ex)
noncomputable def gG(K:Fg)(A:bF):gW:=wQ 3 2 λEX=>lY K A (λ_=>EX)
noncomputable def a3S:CB:=(.cons (.ifs (.cmp .NotEq (.ix (.var 0) (.con (.int 0))) (.ix (.var 1) (.con (.int 0)))) (.cons (.ret (.lst (.cons (.var 0) (.cons (.var 1) .nil)))) .nil) .nil) (.cons (.set 2 (.ifx (.cmp .Lt (.ix (.var 0) (.con (.int 1))) (.ix (.var 1) (.con (.int 1)))) (.con (.int 1)) (.neg (.con (.int 1))))) (.cons (.ret (.comp [ak,ao,ao] [ao] (.ah7 (.ix (.var 0) (.con (.int 1))) (.bin .Add (.ix (.var 1) (.con (.int 1))) (.var 2)) (.var 2)) .none (.tup (.cons (.ix (.var 1) (.con (.int 0))) (.cons (.var 0) .nil))))) .nil)))
noncomputable def a3T(K:Fg)(A:bF):SI:=⟨["one","other","step"],[ak,ak,ak],[ao,ak,ak],[ak,ao,ao],[("range",.bt "range")],[ak],ak,ao⟩
noncomputable def vR(K:Fg)(A:bF)(ex:aN->aX):bI :=
  (cG (aQ (aG ae2 (aB 7) (aB 3))) (ac1 (aB 4) (aB 7) (aO (.bl ak))) bO)
noncomputable def a7C(K:Fg)(A:bF)(ex:aN->aX):bI :=
  (jT (abM (aU (gG K A) ex (aA (aB 5) (aA (aB 6) aC)))) (nO 7) (vR K A ex))
noncomputable def aaS(K:Fg)(A:bF)(ex:aN->aX):bI :=
  (bL (cU zY (aA (aB 4) aC)))
noncomputable def aaT(K:Fg)(A:bF)(ex:aN->aX):bI :=
  aR (jT (a2T (aA (aB 1) (aA (wJ (aB 1) (a1I (aO (.int 1))) pR) aC))) (a2S [5,6]) (a7C K A ex)) (aaS K A ex)
noncomputable def aaU(K:Fg)(A:bF)(ex:aN->aX):bI :=
  aR (bZ 4 a4J) (aaT K A ex)
noncomputable def aaV(K:Fg)(A:bF)(ex:aN->aX):bI :=
  aR (a6D 7 (bZ 3 (cU wL (aA (uU (uR (aB 2)) lV (bV (aA (aB 0) (aA (aO (.bl ak)) aC)))) aC)))) (aaU K A ex)
noncomputable def a0M(K:Fg)(A:bF)(ex:aN->aX):bI :=
  aR (cZ (aU (bN K A) ex (aA (aB 0) aC))) (aaV K A ex)
noncomputable def lK(K:Fg)(A:bF):gW:=wQ 8 3 λEX=>a0M K A (λ_=>EX)
noncomputable def ayD:CB:=(.cons (.expr (.call 0 (.cons (.var 0) .nil))) (.cons (.hid 7 "-" (.set 3 (.call 1 (.cons (.comp [ao,ao,ao,ao,ao,ao,ao,ao] [ao,ao,ao,ao,ao] (.any (.var 2)) .none (.tup (.cons (.var 0) (.cons (.con (.bl ak)) .nil)))) .nil)))) (.cons (.set 4 .awN) (.cons (.a1V (.zip (.var 1) (.sl (.var 1) (.some (.con (.int 1))) .none)) (.tup [5,6]) (.cons (.a1V (.any (.call 3 (.cons (.var 5) (.cons (.var 6) .nil)))) (.nm 7) (.cons (.ifs (.din ao (.var 7) (.var 3)) (.cons (.awW (.var 4) (.var 7) (.con (.bl ak))) .nil) .nil) .nil)) .nil)) (.cons (.ret (.call 4 (.cons (.var 4) .nil))) .nil)))))
noncomputable def ayE(K:Fg)(A:bF):SI:=⟨["plan","spots","bins","wanted","met","one","other","spot"],[ak,ak,ak,ak,ak,ak,ak,ak],[ak,ak,ak,ak,ak,ak,ak,ak],[ao,ao,ao,ao,ao,ao,ao,ao],[("need_plan",.fn (bN K A) 1 ao),("dict",.bf .aaE),("zip",.bt "zip"),("spots_between",.fn (gG K A) 2 ao),("list",.bf .aeI)],[ak,ak,ak,ak,ak],ak,ao⟩
noncomputable def aZ:qC:=aEA "errand" "turns" (inBody f9 4)
noncomputable def mW(K:Fg)(A:bF)(ex:aN->aX):cB :=
  (bV (aA (aG pH (aB 0) (aG bR (aB 1) (aO (.int 0)))) (aA (aG bR (aB 1) (aO (.int 1))) aC)))
noncomputable def iB(K:Fg)(A:bF):gW:=spL 2 2 (mW K A (λ_=>fO λ_ _=>False))
noncomputable def a0N:CE:=(.tup (.cons (.dix (.fre 0) (.ix (.var 1) (.con (.int 0)))) (.cons (.ix (.var 1) (.con (.int 1))) .nil)))
noncomputable def a0O(K:Fg)(A:bF):SI:=⟨["turns","row"],[ao,ak],[ao,ak],[ak,ao],[],[],ak,ao⟩
noncomputable def a0P(K:Fg)(A:bF)(ex:aN->aX):bI :=
  (bZ 4 (cU wL (aA (a4K 2 (a1T (aA (aU (lK K A) ex (aA (aB 0) (aA (aB 3) (aA (aB 2) aC)))) aC)) lV (bV (aA (aB 1) (aA (aB 0) aC)))) aC)))
noncomputable def sW(K:Fg)(A:bF)(ex:aN->aX):bI :=
  aR (bZ 3 (aU (mV K A) ex (aA (aB 0) (aA (aB 2) aC)))) (a0P K A ex)
noncomputable def sX(K:Fg)(A:bF)(ex:aN->aX):bI :=
  aR (bZ 2 (uU (uR (aB 1)) lV (aG bR (aB 0) (aO (.int 0))))) (sW K A ex)
noncomputable def pC(K:Fg)(A:bF)(ex:aN->aX):bI :=
  aR (cZ (aU (bN K A) ex (aA (aB 0) aC))) (sX K A ex)
noncomputable def lM(K:Fg)(A:bF)(ex:aN->aX):bI :=
  aR (pC K A ex) (bL (bV (aA (aB 3) (aA (ac2 (aB 1) A.cI aZ 4 (iB K A)) aC))))
noncomputable def jW(K:Fg)(A:bF):gW:=wQ 5 2 λEX=>lM K A (λ_=>EX)
noncomputable def a7D:CB:=(.cons (.expr (.call 0 (.cons (.var 0) .nil))) (.cons (.setC 2 [ao,ao,ao,ao,ao] [ao,ao,ao,ao,ao] (.any (.var 1)) .none (.ix (.var 0) (.con (.int 0)))) (.cons (.set 3 (.call 1 (.cons (.var 0) (.cons (.var 2) .nil)))) (.cons (.set 4 (.call 4 (.cons (.aaG 2 [ao,ao,ao,ao,ao] [ao,ao,ao,ao,ao] (.enu (.call 3 (.cons (.var 0) (.cons (.var 3) (.cons (.var 2) .nil))))) .none (.tup (.cons (.var 1) (.cons (.var 0) .nil)))) .nil))) .nil))))
noncomputable def a7E:CE:=(.var 3)
noncomputable def a7F:CE:=(.var 1)
noncomputable def afF(K:Fg)(A:bF):SI:=⟨["plan","rows","bins","spots","turns"],[ak,ak,ak,ak,ak],[ak,ak,ak,ak,ao],[ao,ao,ao,ao,ak],[("need_plan",.fn (bN K A) 1 ao),("walk",.fn (mV K A) 2 ao),("enumerate",.bt "enumerate"),("stops",.fn (lK K A) 3 ao),("dict",.bf .aaE)],[ak,ak,ak,ak,ak],ak,ao⟩
noncomputable def qQ(K:Fg)(A:bF)(ex:aN->aX):bI :=
  (bL (aG dR (aG dD (aG pQ (aB 2) (aB 2)) (aG pQ (aO (.int 48271)) (aB 1))) (aO (.int 2147483629))))
noncomputable def qR(K:Fg)(A:bF)(ex:aN->aX):bI :=
  aR (bZ 2 (aG dR (aG dD (aG pQ (aG bR (aB 0) (aG dR (aB 1) (cU m7 (aA (aB 0) aC)))) (aO (.int 48271))) (aG pQ (aB 1) (aO (.int 104729)))) (aO (.int 2147483647)))) (qQ K A ex)
noncomputable def qT(K:Fg)(A:bF)(ex:aN->aX):bI :=
  aR (cG (aQ (aG uE (cU m7 (aA (aB 0) aC)) (aO (.int 0)))) (bL (aO (.int 0))) bO) (qR K A ex)
noncomputable def nZ(K:Fg)(A:bF)(ex:aN->aX):bI :=
  aR (cG (aQ (aG adI (aB 1) (cU m7 (aA (aB 0) aC)))) (bL (aG bR (aB 0) (aB 1))) bO) (qT K A ex)
noncomputable def bJ(K:Fg)(A:bF):gW:=wQ 3 2 λEX=>nZ K A (λ_=>EX)
noncomputable def a7G:CB:=(.cons (.ifs (.cmp .Lt (.var 1) (.call 0 (.cons (.var 0) .nil))) (.cons (.ret (.ix (.var 0) (.var 1))) .nil) .nil) (.cons (.ifs (.cmp .Eq (.call 0 (.cons (.var 0) .nil)) (.con (.int 0))) (.cons (.ret (.con (.int 0))) .nil) .nil) (.cons (.set 2 (.bin .Mod (.bin .Add (.bin .Mult (.ix (.var 0) (.bin .Mod (.var 1) (.call 0 (.cons (.var 0) .nil)))) (.con (.int 48271))) (.bin .Mult (.var 1) (.con (.int 104729)))) (.con (.int 2147483647)))) (.cons (.ret (.bin .Mod (.bin .Add (.bin .Mult (.var 2) (.var 2)) (.bin .Mult (.con (.int 48271)) (.var 1))) (.con (.int 2147483629)))) .nil))))
noncomputable def a7H(K:Fg)(A:bF):SI:=⟨["_law_script","_law_k","_law_mixed"],[ak,ak,ak],[ak,ak,ak],[ao,ao,ao],[("len",.bf .len)],[ak],ak,ao⟩
noncomputable def mX(K:Fg)(A:bF)(ex:aN->aX):bI :=
  (bL (nJ (cU (aD K) (aA (aB 0) (aA (aO (.ty "int")) aC))) (a5Q (cU (aD K) (aA (aB 0) (aA (aO (.ty "bool")) aC))))))
noncomputable def dJ(K:Fg)(A:bF):gW:=wQ 1 1 λEX=>mX K A (λ_=>EX)
noncomputable def acF:CB:=(.cons (.ret (.ah6 (.cons (.call 1 (.cons (.var 0) (.cons (.glo 0) .nil))) (.cons (.aq6 (.call 1 (.cons (.var 0) (.cons (.glo 2) .nil)))) .nil)))) .nil)
noncomputable def acG(K:Fg)(A:bF):SI:=⟨["_law_found"],[ak],[ak],[ao],[("int",.bt "int"),("isinstance",.bf .isi),("bool",.bt "bool")],[ak,ak,ak],ak,ao⟩
noncomputable def qU(K:Fg)(A:bF)(ex:aN->aX):bI :=
  (bL (aG bR (gY (aA (aG tO (aB 1) (aO (.int 1))) (aA (aG dD (aB 2) (aO (.int 1))) (aA (aO (.bl ak)) (aA (aO (.str "1")) (aA (aO .non) (aA (bV (aA (aO (.int 1)) aC)) (aA (aG tO (aG tO (aB 1) (aO (.int 2))) (aB 3)) (aA (aG dD (aG dD (aB 2) (aO (.int 2))) (aB 3)) aC))))))))) (aG dR (aB 0) (aO (.int 8)))))
noncomputable def o7(K:Fg)(A:bF)(ex:aN->aX):bI :=
  aR (bZ 3 (aG dR (aG pQ (aG gQ (aB 0) (aO (.int 8))) (aO (.int 48271))) (aO (.int 1000000007)))) (qU K A ex)
noncomputable def cO(K:Fg)(A:bF):gW:=wQ 4 3 λEX=>o7 K A (λ_=>EX)
noncomputable def a7I:CB:=(.cons (.set 3 (.bin .Mod (.bin .Mult (.bin .FloorDiv (.var 0) (.con (.int 8))) (.con (.int 48271))) (.con (.int 1000000007)))) (.cons (.ret (.ix (.lst (.cons (.bin .Sub (.var 1) (.con (.int 1))) (.cons (.bin .Add (.var 2) (.con (.int 1))) (.cons (.con (.bl ak)) (.cons (.con (.str "1")) (.cons (.con .non) (.cons (.tup (.cons (.con (.int 1)) .nil)) (.cons (.bin .Sub (.bin .Sub (.var 1) (.con (.int 2))) (.var 3)) (.cons (.bin .Add (.bin .Add (.var 2) (.con (.int 2))) (.var 3)) .nil))))))))) (.bin .Mod (.var 0) (.con (.int 8))))) .nil))
noncomputable def a7J(K:Fg)(A:bF):SI:=⟨["_law_cell","_law_low","_law_high","_law_far_off"],[ak,ak,ak,ak],[ak,ak,ak,ak],[ao,ao,ao,ao],[],[],ak,ao⟩
noncomputable def mD(K:Fg)(A:bF)(ex:aN->aX):bI :=
  (abD (aB 2) (aB 4) (aU (cO K A) ex (aA (aG gQ (aB 3) (aO (.int 9))) (aA (aO (.int 1)) (aA (aG bR (gY (aA (aO (.int 26)) (aA (aO (.int 99)) (aA (aO (.int 20)) aC)))) (aB 4)) aC)))))
noncomputable def qW(K:Fg)(A:bF)(ex:aN->aX):bI :=
  (bL (cU rY (aA (aB 2) aC)))
noncomputable def jX(K:Fg)(A:bF)(ex:aN->aX):bI :=
  aR (cG (aQ (aG uE (aG dR (aB 3) (aO (.int 12))) (aO (.int 2)))) (bL (aG bR (gY (aA (aB 2) (aA (cU rY (aA (wJ (aB 2) pR (a1I (aO (.int 2)))) aC)) (aA (aG dD (cU rY (aA (aB 2) aC)) (bV (aA (aO (.int 1)) aC))) (aA (aO .non) (aA (aO (.int 7)) (aA (aO (.str "plan")) aC))))))) (aG dR (aG gQ (aB 3) (aO (.int 12))) (aO (.int 6))))) bO) (qW K A ex)
noncomputable def qX(K:Fg)(A:bF)(ex:aN->aX):bI :=
  aR (cG (aQ (aG uE (aG dR (aB 3) (aO (.int 3))) (aO (.int 1)))) (aR (bZ 4 (aG dR (aG gQ (aB 3) (aO (.int 3))) (aO (.int 3)))) (mD K A ex)) bO) (jX K A ex)
noncomputable def qY(K:Fg)(A:bF)(ex:aN->aX):bI :=
  aR (bZ 3 (aU (bJ K A) ex (aA (aB 0) (aA (aO (.int 1)) aC)))) (qX K A ex)
noncomputable def qZ(K:Fg)(A:bF)(ex:aN->aX):bI :=
  aR (bZ 2 (gY (aA (aG dD (aO (.int 1)) (aG dR (aB 1) (aO (.int 5)))) (aA (aG dD (aO (.int 1)) (aG dR (aG gQ (aB 1) (aO (.int 5))) (aO (.int 7)))) (aA (aG dD (aO (.int 1)) (aG dR (aG gQ (aB 1) (aO (.int 35))) (aO (.int 20)))) aC))))) (qY K A ex)
noncomputable def o8(K:Fg)(A:bF)(ex:aN->aX):bI :=
  aR (bZ 1 (aU (bJ K A) ex (aA (aB 0) (aA (aO (.int 0)) aC)))) (qZ K A ex)
noncomputable def iT(K:Fg)(A:bF):gW:=wQ 5 1 λEX=>o8 K A (λ_=>EX)
noncomputable def a7K:CB:=(.cons (.set 1 (.call 0 (.cons (.var 0) (.cons (.con (.int 0)) .nil)))) (.cons (.set 2 (.lst (.cons (.bin .Add (.con (.int 1)) (.bin .Mod (.var 1) (.con (.int 5)))) (.cons (.bin .Add (.con (.int 1)) (.bin .Mod (.bin .FloorDiv (.var 1) (.con (.int 5))) (.con (.int 7)))) (.cons (.bin .Add (.con (.int 1)) (.bin .Mod (.bin .FloorDiv (.var 1) (.con (.int 35))) (.con (.int 20)))) .nil))))) (.cons (.set 3 (.call 0 (.cons (.var 0) (.cons (.con (.int 1)) .nil)))) (.cons (.ifs (.cmp .Eq (.bin .Mod (.var 3) (.con (.int 3))) (.con (.int 1))) (.cons (.set 4 (.bin .Mod (.bin .FloorDiv (.var 3) (.con (.int 3))) (.con (.int 3)))) (.cons (.awS (.var 2) (.var 4) (.call 1 (.cons (.bin .FloorDiv (.var 3) (.con (.int 9))) (.cons (.con (.int 1)) (.cons (.ix (.lst (.cons (.con (.int 26)) (.cons (.con (.int 99)) (.cons (.con (.int 20)) .nil)))) (.var 4)) .nil))))) .nil)) .nil) (.cons (.ifs (.cmp .Eq (.bin .Mod (.var 3) (.con (.int 12))) (.con (.int 2))) (.cons (.ret (.ix (.lst (.cons (.var 2) (.cons (.call 2 (.cons (.sl (.var 2) .none (.some (.con (.int 2)))) .nil)) (.cons (.bin .Add (.call 2 (.cons (.var 2) .nil)) (.tup (.cons (.con (.int 1)) .nil))) (.cons (.con .non) (.cons (.con (.int 7)) (.cons (.con (.str "plan")) .nil))))))) (.bin .Mod (.bin .FloorDiv (.var 3) (.con (.int 12))) (.con (.int 6))))) .nil) .nil) (.cons (.ret (.call 2 (.cons (.var 2) .nil))) .nil))))))
noncomputable def a7L(K:Fg)(A:bF):SI:=⟨["_law_script","_law_cell","_law_plan","_law_way","_law_at"],[ak,ak,ak,ak,ak],[ak,ak,ak,ak,ak],[ao,ao,ao,ao,ao],[("_law_cell_at",.fn (bJ K A) 2 ao),("_law_strange",.fn (cO K A) 3 ao),("tuple",.bt "tuple")],[ak,ak,ak],ak,ao⟩
noncomputable def pD(K:Fg)(A:bF)(ex:aN->aX):bI :=
  (cG (uD (j6 (aQ (aU (dJ K A) ex (aA (aG bR (aB 0) (aB 1)) aC)))) (uD (aQ (aG adI (aG bR (aB 0) (aB 1)) (aO (.int 1)))) (aQ (aG av0 (aG bR (aB 0) (aB 1)) (aG bR (gY (aA (aO (.int 26)) (aA (aO (.int 99)) (aA (aO (.int 20)) aC)))) (aB 1)))))) (bL (aO (.bl ao))) bO)
noncomputable def rA(K:Fg)(A:bF)(ex:aN->aX):bI :=
  (bL (aO (.bl ak)))
noncomputable def rB(K:Fg)(A:bF)(ex:aN->aX):bI :=
  aR (jT (uT (aA (aO (.int 3)) aC)) (nO 1) (pD K A ex)) (rA K A ex)
noncomputable def fW(K:Fg)(A:bF)(ex:aN->aX):bI :=
  aR (cG (uD (j6 (aQ (cU (aD K) (aA (aB 0) (aA (aO (.ty "tuple")) aC))))) (aQ (aG a3O (cU m7 (aA (aB 0) aC)) (aO (.int 3))))) (bL (aO (.bl ao))) bO) (rB K A ex)
noncomputable def iU(K:Fg)(A:bF):gW:=wQ 2 1 λEX=>fW K A (λ_=>EX)
noncomputable def a7M:CB:=(.cons (.ifs (.or (.cons (.not (.val (.call 1 (.cons (.var 0) (.cons (.glo 0) .nil))))) (.cons (.cmp .NotEq (.call 2 (.cons (.var 0) .nil)) (.con (.int 3))) .nil))) (.cons (.ret (.con (.bl ao))) .nil) .nil) (.cons (.a1V (.ac3 (.con (.int 3))) (.nm 1) (.cons (.ifs (.or (.cons (.not (.val (.call 4 (.cons (.ix (.var 0) (.var 1)) .nil)))) (.cons (.cmp .Lt (.ix (.var 0) (.var 1)) (.con (.int 1))) (.cons (.cmp .Gt (.ix (.var 0) (.var 1)) (.ix (.lst (.cons (.con (.int 26)) (.cons (.con (.int 99)) (.cons (.con (.int 20)) .nil)))) (.var 1))) .nil)))) (.cons (.ret (.con (.bl ao))) .nil) .nil) .nil)) (.cons (.ret (.con (.bl ak))) .nil)))
noncomputable def a7N(K:Fg)(A:bF):SI:=⟨["_law_plan","_law_k"],[ak,ak],[ak,ak],[ao,ao],[("tuple",.bt "tuple"),("isinstance",.bf .isi),("len",.bf .len),("range",.bt "range"),("_law_whole",.fn (dJ K A) 1 ao)],[ak,ak,ak,ak,ak],ak,ao⟩
noncomputable def u0(K:Fg)(A:bF)(ex:aN->aX):bI :=
  (bL (nJ (aG adJ (aO (.int 0)) (aG bR (aB 1) (aO (.int 0)))) (nJ (aG adI (aG bR (aB 1) (aO (.int 0))) (aG bR (aB 0) (aO (.int 0)))) (nJ (aG adJ (aO (.int 1)) (aG bR (aB 1) (aO (.int 1)))) (aG adJ (aG bR (aB 1) (aO (.int 1))) (aG bR (aB 0) (aO (.int 1))))))))
noncomputable def iC(K:Fg)(A:bF)(ex:aN->aX):bI :=
  aR (cG (uD (j6 (aQ (cU (aD K) (aA (aB 1) (aA (aO (.ty "tuple")) aC))))) (uD (aQ (aG a3O (cU m7 (aA (aB 1) aC)) (aO (.int 2)))) (uD (j6 (aQ (aU (dJ K A) ex (aA (aG bR (aB 1) (aO (.int 0))) aC)))) (j6 (aQ (aU (dJ K A) ex (aA (aG bR (aB 1) (aO (.int 1))) aC))))))) (bL (aO (.bl ao))) bO) (u0 K A ex)
noncomputable def jK(K:Fg)(A:bF):gW:=wQ 2 2 λEX=>iC K A (λ_=>EX)
noncomputable def a92:CB:=(.cons (.ifs (.or (.cons (.not (.val (.call 1 (.cons (.var 1) (.cons (.glo 0) .nil))))) (.cons (.cmp .NotEq (.call 2 (.cons (.var 1) .nil)) (.con (.int 2))) (.cons (.not (.val (.call 3 (.cons (.ix (.var 1) (.con (.int 0))) .nil)))) (.cons (.not (.val (.call 3 (.cons (.ix (.var 1) (.con (.int 1))) .nil)))) .nil))))) (.cons (.ret (.con (.bl ao))) .nil) .nil) (.cons (.ret (.ah6 (.cons (.cmp .LtE (.con (.int 0)) (.ix (.var 1) (.con (.int 0)))) (.cons (.cmp .Lt (.ix (.var 1) (.con (.int 0))) (.ix (.var 0) (.con (.int 0)))) (.cons (.cmp .LtE (.con (.int 1)) (.ix (.var 1) (.con (.int 1)))) (.cons (.cmp .LtE (.ix (.var 1) (.con (.int 1))) (.ix (.var 0) (.con (.int 1)))) .nil)))))) .nil))
noncomputable def a93(K:Fg)(A:bF):SI:=⟨["_law_plan","_law_thing"],[ak,ak],[ak,ak],[ao,ao],[("tuple",.bt "tuple"),("isinstance",.bf .isi),("len",.bf .len),("_law_whole",.fn (dJ K A) 1 ao)],[ak,ak,ak,ak],ak,ao⟩
noncomputable def vU(K:Fg)(A:bF)(ex:aN->aX):bI :=
  (bL (aG bR (gY (aA (bV (aA (aO (.int 0)) aC)) (aA (bV (aA (aO (.int 0)) (aA (aO (.int 1)) (aA (aO (.int 1)) aC)))) (aA (gY (aA (aO (.int 0)) (aA (aO (.int 1)) aC))) (aA (aO .non) (aA (aO (.str "A01")) (aA (aO (.int 1)) (aA (bV (aA (aO (.int 0)) (aA (aO (.int 0)) aC))) (aA (bV (aA (aO (.int 0)) (aA (aG dD (aB 2) (aO (.int 1))) aC))) aC))))))))) (aG dR (aG gQ (aB 0) (aO (.int 4))) (aO (.int 8)))))
noncomputable def vV(K:Fg)(A:bF)(ex:aN->aX):bI :=
  aR (cG (aQ (aG uE (aG dR (aB 0) (aO (.int 4))) (aO (.int 1)))) (bL (bV (aA (aO (.int 0)) (aA (aU (cO K A) ex (aA (aG gQ (aB 0) (aO (.int 8))) (aA (aO (.int 1)) (aA (aB 2) aC)))) aC)))) bO) (vU K A ex)
noncomputable def sY(K:Fg)(A:bF)(ex:aN->aX):bI :=
  aR (cG (aQ (aG uE (aG dR (aB 0) (aO (.int 4))) (aO (.int 0)))) (bL (bV (aA (aU (cO K A) ex (aA (aG gQ (aB 0) (aO (.int 8))) (aA (aO (.int 0)) (aA (aG tO (aB 1) (aO (.int 1))) aC)))) (aA (aO (.int 1)) aC)))) bO) (vV K A ex)
noncomputable def lE(K:Fg)(A:bF):gW:=wQ 3 3 λEX=>sY K A (λ_=>EX)
noncomputable def acH:CB:=(.cons (.ifs (.cmp .Eq (.bin .Mod (.var 0) (.con (.int 4))) (.con (.int 0))) (.cons (.ret (.tup (.cons (.call 0 (.cons (.bin .FloorDiv (.var 0) (.con (.int 8))) (.cons (.con (.int 0)) (.cons (.bin .Sub (.var 1) (.con (.int 1))) .nil)))) (.cons (.con (.int 1)) .nil)))) .nil) .nil) (.cons (.ifs (.cmp .Eq (.bin .Mod (.var 0) (.con (.int 4))) (.con (.int 1))) (.cons (.ret (.tup (.cons (.con (.int 0)) (.cons (.call 0 (.cons (.bin .FloorDiv (.var 0) (.con (.int 8))) (.cons (.con (.int 1)) (.cons (.var 2) .nil)))) .nil)))) .nil) .nil) (.cons (.ret (.ix (.lst (.cons (.tup (.cons (.con (.int 0)) .nil)) (.cons (.tup (.cons (.con (.int 0)) (.cons (.con (.int 1)) (.cons (.con (.int 1)) .nil)))) (.cons (.lst (.cons (.con (.int 0)) (.cons (.con (.int 1)) .nil))) (.cons (.con .non) (.cons (.con (.str "A01")) (.cons (.con (.int 1)) (.cons (.tup (.cons (.con (.int 0)) (.cons (.con (.int 0)) .nil))) (.cons (.tup (.cons (.con (.int 0)) (.cons (.bin .Add (.var 2) (.con (.int 1))) .nil))) .nil))))))))) (.bin .Mod (.bin .FloorDiv (.var 0) (.con (.int 4))) (.con (.int 8))))) .nil)))
noncomputable def acI(K:Fg)(A:bF):SI:=⟨["_law_cell","_law_aisles","_law_places"],[ak,ak,ak],[ak,ak,ak],[ao,ao,ao],[("_law_strange",.fn (cO K A) 3 ao)],[ak],ak,ao⟩
noncomputable def vW(K:Fg)(A:bF)(ex:aN->aX):bI :=
  (bL (bV (aA (aO (.str "refused")) (aA (cU aiS (aA (cU (aD K) (aA (aB 3) (aA (aO (.ref A.cA)) aC))) aC)) aC))))
noncomputable def vX(K:Fg)(A:bF)(ex:aN->aX):bI :=
  aR (cG (uD (j6 (aQ (cU (aD K) (aA (aB 3) (aA (aO (.ty "ValueError")) aC))))) (aQ (aG uE (cU (aD K) (aA (aB 3) (aA (aO (.ref A.c7)) aC))) (cU (aD K) (aA (aB 3) (aA (aO (.ref A.cA)) aC)))))) (bL (bV (aA (aO (.str "more")) (aA (aO (.int 1)) aC)))) bO) (vW K A NoX)
noncomputable def jL(K:Fg)(A:bF)(ex:aN->aX):bI :=
  aR (cG (uD (aQ (cU (aD K) (aA (aB 3) (aA (aO (.ref A.qI)) aC)))) (aQ (cU (aD K) (aA (aB 3) (aA (aO (.ref A.wZ)) aC))))) (bL (bV (aA (aO (.str "more")) (aA (aO (.int 0)) aC)))) bO) (vX K A NoX)
noncomputable def fD(K:Fg)(A:bF)(ex:aN->aX):bI :=
  (bL (bV (aA (aO (.str "taken")) (aA (aO (.int 0)) aC))))
noncomputable def vY(K:Fg)(A:bF)(ex:aN->aX):bI :=
  aR (adN K A.gC 3 (λEX2=>(cG (aQ (aG uE (aB 0) (aO (.int 0)))) (cZ (aU (mV K A) EX2 (aA (aB 1) (aA (aB 2) aC)))) (cG (aQ (aG uE (aB 0) (aO (.int 1)))) (cZ (aU (jW K A) EX2 (aA (aB 1) (aA (uU (uR (aB 2)) lV (bV (aA (aB 0) (aA (aO (.int 0)) (aA (aO (.int 1)) aC))))) aC)))) (cG (aQ (aG uE (aB 0) (aO (.int 2)))) (cZ (aU (n6 K A) EX2 (aA (aB 1) (aA (gY (aA (bV (aA (aO (.int 0)) (aA (aO (.int 0)) aC))) aC)) aC)))) (cZ (aU (lK K A) EX2 (aA (aB 1) (aA (gY (aA (bV (aA (aO (.int 0)) (aA (aO (.int 0)) aC))) aC)) (aA (gY aC) aC))))))))) (aR (cG (uD (aQ (cU (aD K) (aA (aB 3) (aA (aO (.ref A.oY)) aC)))) (aQ (cU (aD K) (aA (aB 3) (aA (aO (.ref A.fV)) aC))))) (bL (bV (aA (aO (.str "more")) (aA (aO (.int 0)) aC)))) bO) (jL K A NoX))) (fD K A ex)
noncomputable def jM(K:Fg)(A:bF):gW:=wQ 4 3 λEX=>vY K A (λ_=>EX)
noncomputable def afG:CB:=(.cons (.awT 0 3 (.cons (.ifs (.cmp .Eq (.var 0) (.con (.int 0))) (.cons (.expr (.call 1 (.cons (.var 1) (.cons (.var 2) .nil)))) .nil) (.cons (.ifs (.cmp .Eq (.var 0) (.con (.int 1))) (.cons (.expr (.call 2 (.cons (.var 1) (.cons (.comp [ao,ao,ao,ao] [ao,ao,ao,ao,ao,ao,ao,ao,ao,ao,ao,ao,ao,ao] (.any (.var 2)) .none (.tup (.cons (.var 0) (.cons (.con (.int 0)) (.cons (.con (.int 1)) .nil))))) .nil)))) .nil) (.cons (.ifs (.cmp .Eq (.var 0) (.con (.int 2))) (.cons (.expr (.call 3 (.cons (.var 1) (.cons (.lst (.cons (.tup (.cons (.con (.int 0)) (.cons (.con (.int 0)) .nil))) .nil)) .nil)))) .nil) (.cons (.expr (.call 4 (.cons (.var 1) (.cons (.lst (.cons (.tup (.cons (.con (.int 0)) (.cons (.con (.int 0)) .nil))) .nil)) (.cons (.lst .nil) .nil))))) .nil)) .nil)) .nil)) .nil) (.cons (.ifs (.or (.cons (.val (.call 6 (.cons (.var 3) (.cons (.glo 5) .nil)))) (.cons (.val (.call 6 (.cons (.var 3) (.cons (.glo 7) .nil)))) .nil))) (.cons (.ret (.tup (.cons (.con (.str "more")) (.cons (.con (.int 0)) .nil)))) .nil) .nil) (.cons (.ifs (.or (.cons (.val (.call 6 (.cons (.var 3) (.cons (.glo 8) .nil)))) (.cons (.val (.call 6 (.cons (.var 3) (.cons (.glo 9) .nil)))) .nil))) (.cons (.ret (.tup (.cons (.con (.str "more")) (.cons (.con (.int 0)) .nil)))) .nil) .nil) (.cons (.ifs (.or (.cons (.not (.val (.call 6 (.cons (.var 3) (.cons (.glo 10) .nil))))) (.cons (.cmp .Eq (.call 6 (.cons (.var 3) (.cons (.glo 11) .nil))) (.call 6 (.cons (.var 3) (.cons (.glo 12) .nil)))) .nil))) (.cons (.ret (.tup (.cons (.con (.str "more")) (.cons (.con (.int 1)) .nil)))) .nil) .nil) (.cons (.ret (.tup (.cons (.con (.str "refused")) (.cons (.call 13 (.cons (.call 6 (.cons (.var 3) (.cons (.glo 12) .nil))) .nil)) .nil)))) .nil))))) (.cons (.ret (.tup (.cons (.con (.str "taken")) (.cons (.con (.int 0)) .nil)))) .nil))
noncomputable def afH(K:Fg)(A:bF):SI:=⟨["_law_which","_law_plan","_law_bins","error"],[ak,ak,ak,ak],[ak,ak,ak,ak],[ao,ao,ao,ao],[("DepotError",.cls A.gC),("walk",.fn (mV K A) 2 ao),("errand",.fn (jW K A) 2 ao),("length",.fn (n6 K A) 2 ao),("stops",.fn (lK K A) 3 ao),("NoLot",.cls A.oY),("isinstance",.bf .isi),("NoAmount",.cls A.fV),("NoName",.cls A.qI),("NoRow",.cls A.wZ),("ValueError",.bt "ValueError"),("NoPlan",.cls A.c7),("NoBin",.cls A.cA),("int",.bt "int")],[ak,ak,ak,ak,ak,ak,ak,ak,ak,ak,ak,ak,ak,ak],ak,ao⟩
noncomputable def a7O(K:Fg)(A:bF)(ex:aN->aX):bI :=
  (cZ (tM3 "list" lG (aB 5) (aA (bV (aA (aG dR (aB 2) (aB 3)) (aA (aG dD (aO (.int 1)) (aG dR (aG gQ (aB 2) (aB 3)) (aB 4))) aC))) aC)))
noncomputable def afI(K:Fg)(A:bF)(ex:aN->aX):bI :=
  aR (bZ 2 (aU (bJ K A) ex (aA (aB 0) (aA (aG dD (aO (.int 8)) (aB 6)) aC)))) (a7O K A ex)
noncomputable def afJ(K:Fg)(A:bF)(ex:aN->aX):bI :=
  (bL (aG aj2 (aU (jM K A) ex (aA (aB 7) (aA (bV (aA (aO (.int 1)) (aA (aO (.int 1)) (aA (aO (.int 1)) aC)))) (aA (aB 9) aC)))) (bV (aA (aO (.str "taken")) (aA (aO (.int 0)) aC)))))
noncomputable def afK(K:Fg)(A:bF)(ex:aN->aX):bI :=
  aR (cZ (tM3 "list" lG (aB 9) (aA (bV (aA (aO (.int 0)) (aA (aO (.int 1)) aC))) aC))) (afJ K A ex)
noncomputable def afL(K:Fg)(A:bF)(ex:aN->aX):bI :=
  aR (cZ (aoJ "list" zT (aB 9))) (afK K A ex)
noncomputable def afM(K:Fg)(A:bF)(ex:aN->aX):bI :=
  aR (cG (uD (aQ (aG zR (aU (jM K A) ex (aA (aB 7) (aA (aB 1) (aA (aB 9) aC)))) (aB 8))) (aQ (aG zR (aB 9) (aB 5)))) (bL (aO (.bl ao))) bO) (afL K A ex)
noncomputable def a0Q(K:Fg)(A:bF)(ex:aN->aX):bI :=
  aR (bZ 9 (cU a5V (aA (aB 5) aC))) (afM K A ex)
noncomputable def afN(K:Fg)(A:bF)(ex:aN->aX):bI :=
  aR (cG (j6 (aQ (aU (iU K A) ex (aA (aB 1) aC)))) (bZ 8 (bV (aA (aO (.str "refused")) (aA (aO (.int 0)) aC)))) (cG (adH (aQ (aG adI (aB 7) (aO (.int 2)))) (aQ (aG zR (uU (uR (aB 5)) (j6 (aQ (aU (jK K A) NoX (aA (aB 2) (aA (aB 0) aC))))) (aB 0)) (gY aC)))) (bZ 8 (bV (aA (aO (.str "refused")) (aA (aO (.int 1)) aC)))) bO)) (a0Q K A ex)
noncomputable def afO(K:Fg)(A:bF)(ex:aN->aX):bI :=
  aR (bZ 8 (bV (aA (aO (.str "taken")) (aA (aO (.int 0)) aC)))) (afN K A ex)
noncomputable def acJ(K:Fg)(A:bF)(ex:aN->aX):bI :=
  aR (bZ 7 (aG dR (aU (bJ K A) ex (aA (aB 0) (aA (aO (.int 5)) aC))) (aO (.int 4)))) (afO K A ex)
noncomputable def ajY(K:Fg)(A:bF)(ex:aN->aX):bI :=
  aR (cG (aQ (aG uE (aG dR (aB 2) (aO (.int 3))) (aO (.int 1)))) (cZ (tM3 "list" qD (aB 5) (aA (aG dR (aG gQ (aB 2) (aO (.int 3))) (aG dD (cU m7 (aA (aB 5) aC)) (aO (.int 1)))) (aA (aU (lE K A) ex (aA (aU (bJ K A) ex (aA (aB 0) (aA (aO (.int 4)) aC))) (aA (aB 3) (aA (aB 4) aC)))) aC)))) bO) (acJ K A ex)
noncomputable def ajZ(K:Fg)(A:bF)(ex:aN->aX):bI :=
  aR (bZ 2 (aU (bJ K A) ex (aA (aB 0) (aA (aO (.int 3)) aC)))) (ajY K A ex)
noncomputable def ak0(K:Fg)(A:bF)(ex:aN->aX):bI :=
  aR (jT (uT (aA (aG dR (aU (bJ K A) ex (aA (aB 0) (aA (aO (.int 2)) aC))) (aO (.int 7))) aC)) (nO 6) (afI K A ex)) (ajZ K A ex)
noncomputable def ak1(K:Fg)(A:bF)(ex:aN->aX):bI :=
  aR (bZ 5 (gY aC)) (ak0 K A ex)
noncomputable def ak2(K:Fg)(A:bF)(ex:aN->aX):bI :=
  aR (bZ 4 (aG dD (aO (.int 1)) (aG dR (aG gQ (aB 2) (aO (.int 5))) (aO (.int 7))))) (ak1 K A ex)
noncomputable def ak3(K:Fg)(A:bF)(ex:aN->aX):bI :=
  aR (bZ 3 (aG dD (aO (.int 1)) (aG dR (aB 2) (aO (.int 5))))) (ak2 K A ex)
noncomputable def ak4(K:Fg)(A:bF)(ex:aN->aX):bI :=
  aR (bZ 2 (aU (bJ K A) ex (aA (aB 0) (aA (aO (.int 0)) aC)))) (ak3 K A ex)
noncomputable def arX(K:Fg)(A:bF)(ex:aN->aX):bI :=
  aR (bZ 1 (aU (iT K A) ex (aA (aB 0) aC))) (ak4 K A ex)
noncomputable def acK(K:Fg)(A:bF):gW:=wQ 10 1 λEX=>arX K A (λ_=>EX)
noncomputable def afP:CB:=(.cons (.set 1 (.call 0 (.cons (.var 0) .nil))) (.cons (.set 2 (.call 1 (.cons (.var 0) (.cons (.con (.int 0)) .nil)))) (.cons (.set 3 (.bin .Add (.con (.int 1)) (.bin .Mod (.var 2) (.con (.int 5))))) (.cons (.set 4 (.bin .Add (.con (.int 1)) (.bin .Mod (.bin .FloorDiv (.var 2) (.con (.int 5))) (.con (.int 7))))) (.cons (.set 5 (.lst .nil)) (.cons (.a1V (.ac3 (.bin .Mod (.call 1 (.cons (.var 0) (.cons (.con (.int 2)) .nil))) (.con (.int 7)))) (.nm 6) (.cons (.set 2 (.call 1 (.cons (.var 0) (.cons (.bin .Add (.con (.int 8)) (.var 6)) .nil)))) (.cons (.expr (.meth .append (.var 5) (.cons (.tup (.cons (.bin .Mod (.var 2) (.var 3)) (.cons (.bin .Add (.con (.int 1)) (.bin .Mod (.bin .FloorDiv (.var 2) (.var 3)) (.var 4))) .nil))) .nil))) .nil))) (.cons (.set 2 (.call 1 (.cons (.var 0) (.cons (.con (.int 3)) .nil)))) (.cons (.ifs (.cmp .Eq (.bin .Mod (.var 2) (.con (.int 3))) (.con (.int 1))) (.cons (.expr (.meth .insert (.var 5) (.cons (.bin .Mod (.bin .FloorDiv (.var 2) (.con (.int 3))) (.bin .Add (.call 3 (.cons (.var 5) .nil)) (.con (.int 1)))) (.cons (.call 4 (.cons (.call 1 (.cons (.var 0) (.cons (.con (.int 4)) .nil))) (.cons (.var 3) (.cons (.var 4) .nil)))) .nil)))) .nil) .nil) (.cons (.set 7 (.bin .Mod (.call 1 (.cons (.var 0) (.cons (.con (.int 5)) .nil))) (.con (.int 4)))) (.cons (.set 8 (.tup (.cons (.con (.str "taken")) (.cons (.con (.int 0)) .nil)))) (.cons (.ifs (.not (.val (.call 5 (.cons (.var 1) .nil)))) (.cons (.set 8 (.tup (.cons (.con (.str "refused")) (.cons (.con (.int 0)) .nil)))) .nil) (.cons (.ifs (.and (.cons (.cmp .Lt (.var 7) (.con (.int 2))) (.cons (.eqd ak (.comp [ao,ak,ao,ao,ao,ao,ao,ao,ao,ao] [ao,ao,ao,ao,ao,ao,ak,ao,ao] (.any (.var 5)) (.some (.not (.val (.call 6 (.cons (.var 2) (.cons (.var 0) .nil)))))) (.var 0)) (.lst .nil)) .nil))) (.cons (.set 8 (.tup (.cons (.con (.str "refused")) (.cons (.con (.int 1)) .nil)))) .nil) .nil) .nil)) (.cons (.set 9 (.call 7 (.cons (.var 5) .nil))) (.cons (.ifs (.or (.cons (.eqd ak (.call 8 (.cons (.var 7) (.cons (.var 1) (.cons (.var 9) .nil)))) (.var 8)) (.cons (.eqd ak (.var 9) (.var 5)) .nil))) (.cons (.ret (.con (.bl ao))) .nil) .nil) (.cons (.expr (.meth .clear (.var 9) .nil)) (.cons (.expr (.meth .append (.var 9) (.cons (.tup (.cons (.con (.int 0)) (.cons (.con (.int 1)) .nil))) .nil))) (.cons (.ret (.eqd ao (.call 8 (.cons (.var 7) (.cons (.tup (.cons (.con (.int 1)) (.cons (.con (.int 1)) (.cons (.con (.int 1)) .nil)))) (.cons (.var 9) .nil)))) (.tup (.cons (.con (.str "taken")) (.cons (.con (.int 0)) .nil))))) .nil))))))))))))))))
noncomputable def aKU(K:Fg)(A:bF):SI:=⟨["_law_script","_law_plan","_law_cell","_law_aisles","_law_places","_law_bins","_law_k","_law_which","_law_due","_law_handed"],[ak,ak,ak,ak,ak,ak,ak,ak,ak,ak],[ak,ao,ak,ak,ak,ak,ak,ak,ak,ak],[ao,ak,ao,ao,ao,ao,ao,ao,ao,ao],[("_law_plan_by",.fn (iT K A) 1 ao),("_law_cell_at",.fn (bJ K A) 2 ao),("range",.bt "range"),("len",.bf .len),("_law_wrong",.fn (lE K A) 3 ao),("_law_is_plan",.fn (iU K A) 1 ao),("_law_is_bin",.fn (jK K A) 2 ao),("list",.bt "list"),("_law_told",.fn (jM K A) 3 ao)],[ak,ak,ak,ak,ak,ak,ao,ak,ak],ak,ao⟩
structure xY(K:Fg)(mg:Str->Option bh)(x:Str)(st:kj)(f:bx)(d:ju)(ps:List Str):Prop where
 F:Fun K x x st f d
 B:Binds K d ps []
 m:mg x=aj (.ref f)
structure ExT(K:Fg)(mg:Str->Option bh)(x:Str)(c:bx):Prop where
 m:mg x=aj (.ref c)
 x:yt K c BMv "ValueError.__new__"=ak
 cs:(vf K c).isSome=ak
 ty:a0p K (.ref c)=aj (.type "type")
 be:uf K (.ref c) (.type "BaseException")=aj ak
structure Txt(K:Fg)(mg:Str->Option bh)(A:bF):Prop where
 a0F:A.vJ.code=.ref A.a0F
 iV:xY K mg "is_whole" a6V A.a6Z A.sG ["thing","least","most"]
 jY:xY K mg "is_pair" aaM A.aaP A.wW ["thing","aisles","first","last"]
 n8:xY K mg "is_plan" aaN A.aaQ A.wX ["thing"]
 cJ:xY K mg "need_plan" a2X A.a2Z A.oV ["plan"]
 rC:xY K mg "is_bin" af4 A.af7 A.a0B ["plan","thing"]
 nA:xY K mg "is_spot" aaO A.aaR A.wY ["plan","thing"]
 aaW:xY K mg "far" aAA A.aAB A.ajV ["plan","one","other"]
 jZ:xY K mg "need_bin" a6W A.a70 A.sH ["plan","thing"]
 cN:xY K mg "places_by_aisle" oU A.oW A.fQ ["bins"]
 iW:xY K mg "farthest" a6X A.a71 A.sI ["places","end"]
 dW:xY K mg "steps_within" v9 A.vH A.j9 ["plan","places","end","goal"]
 fH:xY K mg "ways_behind" xT A.xV A.lC ["plan","places","ways"]
 d7:xY K mg "shortest_ends" tR A.tV A.iK ["plan","aisles"]
 dX:xY K mg "spots_within" vA A.vI A.jA ["aisle","places","end","goal"]
 xB:xY K mg "go_to" ajT A.ajW A.a4S ["spots","spot"]
 kJ:xY K mg "spots_by" a6Y A.a72 A.sJ ["aisles","ends"]
 yQ:xY K mg "walk" arR A.arS A.acD ["plan","bins"]
 rD:xY K mg "length" af5 A.af8 A.a0C ["plan","spots"]
 d8:xY K mg "spots_between" tU A.tW A.iM ["one","other"]
 sZ:xY K mg "stops" ajU A.ajX A.a4T ["plan","spots","bins"]
 o9:xY K mg "errand" f9 A.af9 A.vJ ["plan","rows"]
 cV:xY K mg "_law_cell_at" vB A.vK A.jB ["_law_script","_law_k"]
 eV:xY K mg "_law_whole" a09 A.a0D A.mR ["_law_found"]
 cW:xY K mg "_law_strange" vC A.vL A.jC ["_law_cell","_law_low","_law_high"]
 dY:xY K mg "_law_plan_by" vD A.vM A.jD ["_law_script"]
 dZ:xY K mg "_law_is_plan" vG A.vN A.jE ["_law_plan"]
 fJ:xY K mg "_law_is_bin" xU A.xW A.lD ["_law_plan","_law_thing"]
 gH:xY K mg "_law_wrong" a0A A.a0E A.mU ["_law_cell","_law_aisles","_law_places"]
 j5:xY K mg "_law_told" a2Y A.a3A A.oX ["_law_which","_law_plan","_law_bins"]
 aKV:xY K mg "law" af6 A.a73 A.aAC ["_law_script"]
 jN:ExT K mg "DepotError" A.gC
 lN:ExT K mg "NoPlan" A.c7
 arY:ExC K A.c7
 rE:iu K (.ref A.c7) (.type "ValueError")=aj ak
 vZ:ExT K mg "NoName" A.qI
 mY:ExT K mg "NoBin" A.cA
 ayF:ExC K A.cA
 w5:iu K (.ref A.cA) (.type "ValueError")=aj ak
 a0R:ExT K mg "NoLot" A.oY
 oA:ExT K mg "NoAmount" A.fV
 a0S:ExT K mg "NoRow" A.wZ
 cR:uf K (.ref A.c7) (.ref A.gC)=aj ak
 dG:iu K (.ref A.c7) (.ref A.fV)=aj ao
 fX:iu K (.ref A.c7) (.ref A.cA)=aj ao
 fY:iu K (.ref A.c7) (.ref A.oY)=aj ao
 fB:iu K (.ref A.c7) (.ref A.qI)=aj ao
 fC:iu K (.ref A.c7) (.ref A.c7)=aj ak
 fZ:iu K (.ref A.c7) (.ref A.wZ)=aj ao
 cX:uf K (.ref A.cA) (.ref A.gC)=aj ak
 eF:iu K (.ref A.cA) (.ref A.fV)=aj ao
 iD:iu K (.ref A.cA) (.ref A.cA)=aj ak
 iG:iu K (.ref A.cA) (.ref A.oY)=aj ao
 gA:iu K (.ref A.cA) (.ref A.qI)=aj ao
 gB:iu K (.ref A.cA) (.ref A.c7)=aj ao
 iH:iu K (.ref A.cA) (.ref A.wZ)=aj ao
 iI:∃t,mg "MOST_AISLES"=aj (.int 26 t)
 iJ:∃t,mg "MOST_PLACES"=aj (.int 99 t)
 oE:∃t,mg "MOST_GAP"=aj (.int 20 t)
 a7P:∃a,mg "DOOR"=aj (.ref a)/\∀H,RD K H (.tup [.int 0,.int 0]) (.ref a)
 acL:mg "ValueError"=aq
 aAD:mg "abs"=aq
 arZ:mg "bool"=aq
 as3:mg "dict"=aq
 a3E:mg "enumerate"=aq
 as4:mg "int"=aq
 eX:mg "isinstance"=aq
 a3F:mg "len"=aq
 as5:mg "list"=aq
 aAE:mg "max"=aq
 as6:mg "min"=aq
 a4U:mg "range"=aq
 as7:mg "sorted"=aq
 aKW:mg "sum"=aq
 a0T:mg "tuple"=aq
 aAF:mg "zip"=aq
end Law
namespace Law
open PySem PySem.Spec PyProof.Rows L2 L4 L5 L6
local macro_rules| `(tactic| walk_at "wp")=>`(tactic| first|(simp(maxSteps:=2000000) (implicitDefEqProofs:=false) (disch:=first|rfl|decide|assumption|omega) only[L5.aK4,L5.aEK,L5.aEL,L5.aK5,L5.aK6,L5.aK7,L5.x_raise,L5.x_c,L5.aEM,L5.aEN,L5.aOV,L5.aEO,L5.axE,L5.aK9,L5.aOW,L5.aKA,L5.aEP,L5.aEQ,L5.aKB,L5.aKC,L5.aKD,L5.aER,L5.aKE,L5.aKF,L5.aKG,L5.x_call,L5.aOX,L5.x_m,L5.aOY,L5.ar5,L5.aES,L5.axF,L5.aK8,L5.aED,L5.axD,L5.ar6,L5.ar7,L5.aKH,L5.aEU,L5.aEV,L5.axR,L5.aEW,L5.x_lt,L5.aOZ,L5.aP0,L5.axG,L5.axH,L5.axI,L5.axJ,L5.axK,L5.axL,L5.aKJ,L5.axM,L5.bD,L5.axO,L5.axP,L5.axQ,L5.aEE,L5.aEF,L5.aEG,L5.aEH,L5.aEI,L5.aEJ,L5.aeR,L5.ac7,L5.a8W,L5.ah9,L5.aeS,L5.ac8,L5.aeT,L5.ac9,L5.a8X,L5.aeU,L5.acA,L5.a8Y,L5.aeV,L5.acB,L5.a8Z,L5.ahB,L5.ahC,L5.aeW,L5.arC,L5.alS,L5.ahD,L5.aKK,L5.aKL,L5.ahE,L5.alT,L5.alU,L6.axS,L6.aKM,L6.aF1,L6.axT,L6.aF2,L6.aF4,L6.axU,L6.a6S,L6.axV,L6.aEZ,L6.aKN,L8.axZ,L9.aF9,L14.aFB,L14.ay6,L11.arK,L10.alX,L10.aFA,L7.aF6,L7.aF7,L7.aF8,L7.aKQ,reduceIte,reduceCtorEq];try dsimp only[L5.aqZ,L5.ar0,L5.ar3,L5.ar4,L6.ajO])|dsimp only[L5.aqZ,L5.ar0,L5.ar3,L5.ar4,L6.ajO])
local macro_rules| `(tactic| exists $ls,*)=>`(tactic| (simp(implicitDefEqProofs:=false) only[$[$ls:term],*];repeat (first|(walk_at "wp")|(simp(implicitDefEqProofs:=false) only[$[$ls:term],*]))))
local macro_rules| `(tactic| walk_at "wr")=>`(tactic| repeat (walk_at "wp"))
variable{b p:bx}{ns:List Int}{i j e:Int}{x y:Nat}{F:cQ}{ex:aN->aX}{m:List (List Int×D)}{ws:List (Int×Int)}
section
variable{K:Fg}{A:bF}{G:Gp}{R:fL}{EX:aX}{mg:Str->Option bh}
open L7 L8 L9 L10 L11 L14
noncomputable def isW(d:D)(a b:Int):Bool:=match d with
 |.int i=>decide (a<=i)&&decide (i<=b)
 |_=>ao
set_option tactic.hygienic true in
theorem oF{a b:Int}(hd:kn G d)(h:R (.bl (isW d a b)) G):dF K A [d,.int a,.int b] G R EX:=by
 refine⟨rfl,?_⟩;replace h:=aY.here h;show sO K A _ _ [aj d,aj (.int a),aj (.int b)] G;cases d
 case ref q=>exists sO,a6R hd;exact h
 case ty n=>simp[kn,tyD]at hd
 all_goals exists sO
 case int i =>
  by_cases c:a<=i
  .simp only[c,decide_true,if_true];simpa[isW,c]using h
  .simp only[c,decide_false,qe,if_false];simpa[isW,c]using h
 all_goals exact h
noncomputable def cellAt(ns:List Int)(k:Nat):Int:=if k<ns.length then ns.getD k 0 else if ns=[]then 0 else
 let m:=(ns.getD (k%ns.length) 0*48271+k*104729)%2147483647
 (m*m+48271*k)%2147483629
theorem w6(hG:G a=aj (.rol (ns.map D.int))){k:Nat}(hk:k<1000)(h:R (.int (cellAt ns k)) G):bJ K A [.ref a,.int (k:Int)] G R EX:=by
 refine⟨rfl,?_⟩;replace h:=aY.here h;show nZ K A _ _ [aj (.ref a),aj (.int k),aq] G;exists nZ,wU (v7 hG);by_cases c:k<ns.length
 .rw[if_pos (decide_eq_true (by omega))];have e:zF (ns.map D.int) (k:Int)=aj (.int (ns.getD k 0)):=by rw[sE];simp[c,a1b]
  rw[yK (v7 hG) e];rw[show cellAt ns k=ns.getD k 0 by unfold cellAt;rw[if_pos c]]at h;exact h
 .rw[if_neg (by simp;omega)];exists qT,wU (v7 hG);by_cases hn:ns=[]
  .subst hn;rw[show cellAt [] k=0 by unfold cellAt;simp]at h;exact h
  .have h0:0<(ns.length:Int):=by cases ns with
    |nil=>exact absurd rfl hn
    |cons n r=>simp
   have e0:((ns.length:Int)==0)=ao:=by simp;exact hn
   rw[e0];exists qR,wU (v7 hG);have hm:k%ns.length<ns.length:=Nat.mod_lt _ (by omega)
   have e2:zF (ns.map D.int) ((k:Int)%(ns.length:Int))=aj (.int (ns.getD (k%ns.length) 0)):=by
    rw[←Int.natCast_emod,sE];simp[hm,a1b]
   rw[yK (v7 hG) e2];exists qQ
   have ec:cellAt ns k=((ns.getD (k%ns.length) 0*48271+(k:Int)*104729)%2147483647*((ns.getD (k%ns.length) 0*48271+(k:Int)*104729)%2147483647)+48271*(k:Int))%2147483629:=by
    unfold cellAt;rw[if_neg c,if_neg hn]
   rw[←ec];exact h
noncomputable def isP(d:D)(n a b:Int):Bool:=match d with
 |.tup [x,y]=>isW x 0 (n - 1)&&isW y a b
 |_=>ao
set_option tactic.hygienic true in
theorem am8{n a b:Int}(hd:kn G d)(hc:∀x y,d=.tup [x,y]->kn G x/\kn G y)(h:R (.bl (isP d n a b)) G):jV K A [d,.int n,.int a,.int b] G R EX:=by
 refine⟨rfl,?_⟩;replace h:=aY.here h;show qJ K A _ _ [aj d,aj (.int n),aj (.int a),aj (.int b)] G;cases d
 case ref q=>exists qJ,mQ hd;exact h
 case ty n=>simp[kn,tyD]at hd
 case tup xs =>
  exists qJ
  match xs,h,hc with
  |[],h,_=>exact h
  |[x],h,_=>exact h
  |x::y::z::r,h,_ =>
   have e:((((x::y::z::r).length:Nat):Int)==2)=ao:=by simp;omega
   simp only[e];exact h
  |[x,y],h,hc =>
   obtain⟨h1,h2⟩:=hc x y rfl;exists a3B;refine oF h1 ?_;walk_at "wr";refine fP (λe=>oF h2 ?_) λe=>?_
   .simpa[isP,e]using h
   .simpa[isP,e]using h
 all_goals exists qJ
 all_goals exact h
set_option tactic.hygienic true in
theorem aFH{n a b:Int}(h:isP d n a b=ak):∃i j:Int,d=.tup [.int i,.int j]/\0<=i/\i<=n - 1/\a<=j/\j<=b:=by
 unfold isP at h;split at h
 .rename_i x y;rw[bw]at h;obtain⟨h1,h2⟩:=h;unfold isW at h1 h2;split at h1
  .split at h2
   .simp only[bw,decide_eq_true_eq]at h1 h2;exact⟨_,_,rfl,h1.1,h1.2,h2.1,h2.2⟩
   .cases h2
  .cases h1
 .cases h
theorem as8{n a b:Int}:isP (.tup [.int i,.int j]) n a b=(decide (0<=i)&&decide (i<=n - 1)&&(decide (a<=j)&&decide (j<=b))):=rfl
noncomputable def jO(d:D):Bool:=match d with
 |.tup [x,y,z]=>isW x 1 26&&(isW y 1 99&&isW z 1 20)
 |_=>ao
set_option tactic.hygienic true in
theorem am9(hd:kn G d)(hc:∀x y z,d=.tup [x,y,z]->kn G x/\kn G y/\kn G z)(h:R (.bl (jO d)) G):sU K A [d] G R EX:=by
 refine⟨rfl,?_⟩;replace h:=aY.here h;show qK K A _ _ [aj d] G;cases d
 case ref q=>exists qK,mQ hd;exact h
 case ty n=>simp[kn,tyD]at hd
 case tup xs =>
  exists qK
  match xs,h,hc with
  |[],h,_=>exact h
  |[x],h,_=>exact h
  |[x,y],h,_=>exact h
  |x::y::z::w::r,h,_ =>
   have e:((((x::y::z::w::r).length:Nat):Int)==3)=ao:=by simp;omega
   simp only[e];exact h
  |[x,y,z],h,hc =>
   obtain⟨h1,h2,h3⟩:=hc x y z rfl;exists a3D;refine oF h1 ?_;walk_at "wr";refine akZ (λe=>?_) λe=>?_
   .simpa[jO,e]using h
   .have e:isW x 1 26=ak:=by simpa using e
    refine oF h2 ?_;walk_at "wr";refine akZ (λe2=>?_) λe2=>?_
    .simpa[jO,e2]using h
    .have e2:isW y 1 99=ak:=by simpa using e2
     exists a3C;refine oF h3 ?_;simpa[jO,e,e2]using h
 all_goals exists qK
 all_goals exact h
theorem lO(hd:kn G d)(hc:∀x y z,d=.tup [x,y,z]->kn G x/\kn G y/\kn G z)(h0:jO d=ao->EX A.c7 G)(h1:jO d=ak->R .non G):bN K A [d] G R EX:=by
 refine⟨rfl,?_⟩;show vO K A _ _ [aj d] G;exists vO;refine am9 hd hc ?_;walk_at "wr";exact akZ (λe=>fO.here (h0 e)) λe=>aY.here (h1 (by simpa using e))
noncomputable def lQ(x y g:Nat):D:=.tup [.int x,.int y,.int g]
structure OkP(x y g:Nat):Prop where
 x0:1<=x
 x1:x<=26
 y0:1<=y
 y1:y<=99
 g0:1<=g
 g1:g<=20
theorem ayG{g:Nat}(o:OkP x y g):jO (lQ x y g)=ak:=by
 obtain⟨_,_,_,_,_,_⟩:=o;simp[jO,lQ,isW];omega
theorem kW{g:Nat}(o:OkP x y g)(h:R .non G):bN K A [lQ x y g] G R EX :=
 lO ahA (λa b c e=>by cases e;exact⟨rfl,rfl,rfl⟩) (λe=>by rw[ayG o]at e;cases e) λ_=>h
def kp(G:Gp)(d:D):Prop:=kn G d/\∀xs,d=.tup xs->∀x∈xs,kn G x
theorem kp.pl(h:kp G d):∀x y z,d=.tup [x,y,z]->kn G x/\kn G y/\kn G z:=λx y z e=>⟨h.2 _ e x (by simp),h.2 _ e y (by simp),h.2 _ e z (by simp)⟩
theorem kp.pr(h:kp G d):∀x y,d=.tup [x,y]->kn G x/\kn G y:=λx y e=>⟨h.2 _ e x (by simp),h.2 _ e y (by simp)⟩
theorem kp.le(l:Le G G')(h:kp G d):kp G' d:=⟨ajP l h.1,λxs e x m=>ajP l (h.2 xs e x m)⟩
theorem rF(h:kn G d)(hn:∀xs,d≠.tup xs):kp G d:=⟨h,λxs e=>absurd e (hn xs)⟩
theorem lZ(h:∀x∈xs,kn G x):kp G (.tup xs):=⟨ahA,λys e=>by cases e;exact h⟩
theorem aKX{g:Nat}:kp G (lQ x y g):=lZ (all_cons rfl (all_cons rfl (all_cons rfl all_nil)))
def HS(G:Gp)(p:bx)(xs:List D)(G':Gp):Prop:=G' p=aj (.lst xs)/\∀q u,q≠p->G q=aj u->G' q=aj u
theorem HS.le(h:HS G p xs G'):Le (aL G p (.lst xs)) G':=λq u e=>by
 by_cases c:q=p
 .subst c;rw[aH]at e;exact e ▸ h.1
 .rw[bC c]at e;exact h.2 q u c e
theorem HS.new(h:HS G p xs G')(hq:G' q=aq):HS G p xs (aL G' q o):=⟨fU h.1 hq,λr u n e=>fU (h.2 r u n e) hq⟩
theorem HS.trans(h:HS G p xs G')(h2:HS G' p ys G2):HS G p ys G2:=⟨h2.1,λr u n e=>h2.2 r u n (h.2 r u n e)⟩
theorem HS.put(h:G p=aj (.lst xs)):HS G p ys (aL G p (.lst ys)):=⟨aH,λr u n e=>by rw[bC n];exact e⟩
theorem HS.more(h:HS G p xs G')(l:Le G' G2):HS G p xs G2:=⟨l _ _ h.1,λr u n e=>l _ _ (h.2 r u n e)⟩
theorem HS.leG(h:HS G p xs G')(hp:G p=aq):Le G G':=λr u e=>h.2 r u (λz=>by subst z;rw[hp]at e;cases e) e
theorem HS.mk0:HS G p xs (aL G p (.lst xs)):=⟨aH,λr u n e=>by rw[bC n];exact e⟩
theorem HS.snd(h:HS G p xs G'):HS G p ys (aL G' p (.lst ys)):=h.trans (.put h.1)
noncomputable abbrev eG(q:Int×Int):D:=.tup [.int q.1,.int q.2]
def Wk(y:Nat)(q r:Int×Int):Prop:=q.1=r.1∨(q.2=r.2/\(q.2=0∨q.2=(y:Int)+1))
def InP(x y:Nat)(q:Int×Int):Prop:=0<=q.1/\q.1<x/\0<=q.2/\q.2<=(y:Int)+1
structure Walk(x y:Nat)(qs:List (Int×Int)):Prop where
 inn:∀q∈qs,InP x y q
 step:∀(k:Nat) q r,qs[k]?=aj q->qs[k+1]?=aj r->Wk y q r
theorem Walk.snoc{qs:List (Int×Int)}(h:Walk x y qs)(hl:qs[qs.length - 1]?=aj l)(hr:InP x y r)(hw:Wk y l r):Walk x y (qs++[r]):=by
 have n0:qs.length - 1<qs.length:=(gj.mp hl).1;refine⟨λq hq=>?_,λk a b ha hb=>?_⟩
 .rcases xu.mp hq with hq|hq
  .exact h.inn q hq
  .rw[su]at hq;exact hq ▸ hr
 .have kb:=(gj.mp hb).1;rw[vp,List.length_singleton]at kb;rw[pq (by omega)]at ha;by_cases c:k+1<qs.length
  .rw[pq c]at hb;exact h.step k a b ha hb
  .have e:k+1=qs.length:=by omega
   rw[e,List.getElem?_concat_length]at hb;cases hb;rw[show k=qs.length - 1 by omega,hl]at ha;cases ha;exact hw
theorem amA:(qs++[r])[(qs++[r]).length - 1]?=aj r:=by
 simp
noncomputable abbrev P2:=Int×Int
noncomputable def m6(q r:P2):Int:=if q.2<r.2 then 1 else -1
noncomputable def cnt(q r:P2):Nat:=(r.2 - q.2).natAbs
noncomputable def aKZ(q r:P2)(i:Nat):P2:=(q.1,q.2+(i:Int)*m6 q r)
noncomputable def as9(q r:P2):List P2:=(jy (cnt q r)).map λi=>aKZ q r (i+1)
noncomputable def rG(w:P2->Bool)(M:List P2)(q:P2):List P2:=if w q=ak then v8 M q else M
noncomputable def tD(q r:P2):List P2:=if q.1=r.1 then q::as9 q r else[q,r]
noncomputable def amB(w:P2->Bool)(M:List P2)(q r:P2):List P2:=(tD q r).foldl (rG w) M
set_option tactic.hygienic true in
theorem amC{b:P2->Bool}:r∈rG b M q↔r∈M∨(r=q/\b q=ak):=by
 unfold rG;split
 ·rename_i c;rw[af2];simp[c]
 .rename_i c;simp[c]
theorem afQ{b:P2->Bool}:∀{l M:List P2},r∈l.foldl (rG b) M↔r∈M∨(r∈l/\b r=ak)
 |[],M=>by simp
 |q::l,M=>by
  rw[List.foldl_cons,afQ,amC,jm];constructor
  .rintro((h|⟨rfl,h⟩)|⟨h,h2⟩)
   .exact .inl h
   .exact .inr ⟨.inl rfl,h⟩
   .exact .inr ⟨.inr h,h2⟩
  .rintro(h|⟨rfl|h,h2⟩)
   .exact .inl (.inl h)
   .exact .inl (.inr ⟨rfl,h2⟩)
   .exact .inr ⟨h,h2⟩
theorem amD{b:P2->Bool}(M:List P2)(q:P2):(rG b M q).length<=M.length+1:=by
 unfold rG;split
 ·exact arP M q
 .omega
theorem a7Q{b:P2->Bool}:∀(l M:List P2),(l.foldl (rG b) M).length<=M.length+l.length
 |[],M=>by simp
 |q::l,M=>by
  rw[List.foldl_cons,ug];have:=a7Q (b:=b) l (rG b M q);have:=amD (b:=b) M q;omega
theorem asA(q r:P2):(as9 q r).length=cnt q r:=by simp[as9]
noncomputable def wA(w:P2->Bool)(qs:List P2):Nat->List P2
 |0=>[]
 |k+1=>amB w (wA w qs k) (qs.getD k (0,0)) (qs.getD (k+1) (0,0))
theorem afR(h:cnt q r<=100):(tD q r).length<=101:=by
 unfold tD;split
 ·rw[ug,asA];omega
 .simp
theorem a0U{w:P2->Bool}{qs:List P2}(h:∀k,cnt (qs.getD k (0,0)) (qs.getD (k+1) (0,0))<=100):∀k,(wA w qs k).length<=k*101
 |0=>by simp[wA]
 |k+1=>by
  have a:=a0U (w:=w) h k;have b:=a7Q (b:=w) (tD (qs.getD k (0,0)) (qs.getD (k+1) (0,0))) (wA w qs k);have c:=afR (h k);show(amB w (wA w qs k) _ _).length<=_;unfold amB;omega
noncomputable def mxL:List Int->Int
 |[]=>0
 |[a]=>a
 |a::b::r=>if mxL (b::r)<a then a else mxL (b::r)
set_option tactic.hygienic true in
theorem a1Z:∀{l:List Int},l≠[]->mxL l∈l/\∀a∈l,a<=mxL l
 |[],h=>absurd rfl h
 |[a],_=>⟨by simp[mxL],λb hb=>by simp at hb;simp[mxL,hb]⟩
 |a::b::r,_=>by
  obtain⟨h1,h2⟩:=a1Z (l:=b::r) (by simp);unfold mxL;split
  ·rename_i c;refine⟨by simp,λd hd=>?_⟩;rcases jm.mp hd with e|hd
   .omega
   .have:=h2 d hd;omega
  .rename_i c;refine⟨jw _ h1,λd hd=>?_⟩;rcases jm.mp hd with e|hd
   .omega
   .exact h2 d hd
theorem aFI{M:Int}(h1:M∈l)(h2:∀a∈l,a<=M):M=mxL l:=by
 have n:l≠[]:=λe=>by subst e;cases h1
 have:=(a1Z n).2 M h1;have:=h2 _ (a1Z n).1;omega
noncomputable def xZ(e:Int)(es:List Int):Int:=es.getLastD e
theorem yR{g:Int}:xZ e (es++[g])=g:=by simp[xZ]
structure Ens(n:Int)(k:Nat)(es:List Int):Prop where
 len:es.length=k
 inn:∀g∈es,g=0∨g=n
theorem Ens.snoc{n:Int}{k:Nat}{g:Int}(h:Ens n k es)(hg:g=0∨g=n):Ens n (k+1) (es++[g]) :=
 ⟨by simp[h.len],λf hf=>(xu.mp hf).elim (h.inn f) λz=>by rw[su.mp z];exact hg⟩
theorem Ens.last{n:Int}{k:Nat}(h:Ens n k es):xZ 0 es=0∨xZ 0 es=n:=by
 unfold xZ;cases es with
 |nil=>exact .inl rfl
 |cons a r=>simp only[List.getLastD];exact h.inn _ (List.getLast_mem _)
noncomputable def eN(qs:List (Int×Int))(q:Int×Int):List (Int×Int):=if qs[qs.length - 1]?=aj q then qs else qs++[q]
theorem kY:(eN qs q)[(eN qs q).length - 1]?=aj q:=by
 unfold eN;split
 ·assumption
 .exact amA
theorem rH{qs:List (Int×Int)}(w:Walk x y qs)(hl:qs[qs.length - 1]?=aj l)(hq:InP x y q)(hw:Wk y l q):Walk x y (eN qs q):=by
 unfold eN;split
 ·exact w
 .exact w.snoc hl hq hw
theorem xC{qs:List (Int×Int)}:(eN qs q).length<=qs.length+1:=by
 unfold eN;split
 ·omega
 .simp
def OkA(y:Nat)(pss:List (List Int)):Prop:=∀ps∈pss,∀p∈ps,1<=p/\p<=(y:Int)
theorem take_snoc{α:Type}{l:List α}{k:Nat}{a:α}(h:l[k]?=aj a):l.take (k+1)=l.take k++[a]:=by rw[a2s,h];rfl
theorem yS{α β:Type}{f:β->α->β}{b:β}{l:List α}{k:Nat}{a:α}(h:l[k]?=aj a):(l.take (k+1)).foldl f b=f ((l.take k).foldl f b) a:=by
 rw[take_snoc h,List.foldl_append];rfl
def Ais(G:Gp)(al:bx)(pss:List (List Int)):Prop:=∃rs:List bx,G al=aj (.lst (rs.map D.ref))/\rs.length=pss.length/\∀(k:Nat) r ps,rs[k]?=aj r->pss[k]?=aj ps->G r=aj (.lst (ps.map D.int))
theorem Ais.le(l:Le G G')(h:Ais G al pss):Ais G' al pss:=by
 obtain⟨rs,h1,h2,h3⟩:=h;exact⟨rs,l _ _ h1,h2,λk r ps a b=>l _ _ (h3 k r ps a b)⟩
theorem aL0(hp:aM G p=aj (ns.map D.int))(hn:ns≠[])(h:∀M,M∈ns->(∀a∈ns,a<=M)->R (.int M) G):a65 [.ref p] G R:=by
 unfold a65 alD;simp only[hp];exact⟨ns,rfl,hn,h⟩
theorem aL1(hp:aM G p=aj (ns.map D.int))(hn:ns≠[])(h:∀M,M∈ns->(∀a∈ns,M<=a)->R (.int M) G):a1O [.ref p] G R:=by
 unfold a1O alD;simp only[hp];exact⟨ns,rfl,hn,h⟩
def aL2(ps:List Int)(e M:Int):Prop:=M∈ps/\if e=0 then ∀a∈ps,a<=M else ∀a∈ps,M<=a
theorem a7R{ps:List Int}(hp:aM G p=aj (ps.map D.int))(n:ps≠[])(h:∀M,aL2 ps e M->R (.int M) G):j4 K A [.ref p,.int e] G R EX:=by
 refine⟨rfl,?_⟩;show yN K A _ _ [aj (.ref p),aj (.int e)] G;exists yN;refine fP (λc=>aL0 hp n λM h1 h2=>?_) λc=>aL1 hp n λM h1 h2=>?_
 .exact aY.here (h M ⟨h1,by rw[if_pos (by simpa using c)];exact h2⟩)
 .exact aY.here (h M ⟨h1,by rw[if_neg (by simpa using c)];exact h2⟩)
theorem ayK{g:Nat}{ps:List Int}{gl:Int}(o:OkP x y g)(hp:aM G p=aj (ps.map D.int))(h:∀c:Int,R (.int c) G):iQ K A [lQ x y g,.ref p,.int e,.int gl] G R EX:=by
 refine⟨rfl,?_⟩;have h':∀c:Int,aY R (.int c) G:=λc=>aY.here (h c);show nR K A _ _ [aj (lQ x y g),aj (.ref p),aj (.int e),aj (.int gl)] G;exists nR;refine akZ (λc=>?_) λc=>?_
 .unfold lQ;walk_at "wr";exact h' _
 .exists qM,wU hp;by_cases n:ps=[]
  .subst n;exact h' _
  .have e0:((ps.length:Int)==0)=ao:=by simpa using n
   rw[e0];exists qL;refine a7R hp n λM _=>?_;walk_at "wr";exact h' _
noncomputable abbrev Way:=Int×Int×List Int
def Ent(n:Int)(k:Nat)(z:Way):Prop:=Ens n k z.2.2/\xZ 0 z.2.2=z.1
theorem ayL{n:Int}:∀{l:List Int},l.Nodup->(∀z∈l,z=0∨z=n)->l.length<=2
 |[],_,_=>by simp
 |[_],_,_=>by simp
 |[_,_],_,_=>by simp
 |a::b::c::r,nd,h=>by
  simp only[vo,jm,not_or]at nd;have h1:=h a (by simp);have h2:=h b (by simp);have h3:=h c (by simp);omega
structure Fnd(n:Int)(k:Nat)(fk:List Way):Prop where
 ent:∀z∈fk,Ent n k z
 nd:(fk.map (·.1)).Nodup
theorem Fnd.two{n:Int}{k:Nat}{fk:List Way}(h:Fnd n k fk):fk.length<=2:=by
 have:=ayL h.nd (λz hz=>by
  obtain⟨w,hw,rfl⟩:=jz.mp hz;obtain⟨h1,h2⟩:=h.ent w hw;rw[←h2];exact h1.last)
 simpa using this
noncomputable def wB(fk:List Way)(g:Int):Option (Int×List Int):=match fk with
 |[]=>aq
 |z::r=>if z.1=g then aj z.2 else wB r g
noncomputable def a95(fk:List Way)(g:Int)(w:Int×List Int):List Way:=if(wB fk g).isSome then fk.map (λz=>if z.1=g then(z.1,w)else z)else fk++[(g,w)]
set_option tactic.hygienic true in
theorem a0W:∀{fk:List Way}{g:Int}{w:Int×List Int},wB fk g=aj w->(g,w)∈fk
 |[],_,_,h=>by cases h
 |z::r,g,w,h=>by
  unfold wB at h;split at h
  .rename_i c;cases h;rw[←c];exact .head _
  .exact jw _ (a0W h)
set_option tactic.hygienic true in
theorem a2A:∀{fk:List Way}{g:Int},wB fk g=aq->∀z∈fk,z.1≠g
 |[],_,_,_,h=>by cases h
 |y::r,g,h,z,hz=>by
  unfold wB at h;split at h
  .cases h
  .rename_i c;rcases jm.mp hz with e|hz
   .rw[e];exact c
   .exact a2A h z hz
theorem a2B{fk:List Way}{g:Int}{w:Int×List Int}:(a95 fk g w).map (·.1)=if(wB fk g).isSome then fk.map (·.1)else fk.map (·.1)++[g]:=by
 unfold a95;split
 ·rw[mj];refine a1o λz _=>?_;simp only[Function.comp];split<;>rfl
 .rw[zq];rfl
set_option tactic.hygienic true in
theorem asB{g:Int}{w:Int×List Int}:g∈(a95 fk g w).map (·.1):=by
 rw[a2B];split
 ·rename_i h;obtain⟨v,hv⟩:=a0q.mp h;exact jz.mpr ⟨_,a0W hv,rfl⟩
 .simp
theorem asC{fk:List Way}{g:Int}{w:Int×List Int}(h:i∈fk.map (·.1)):i∈(a95 fk g w).map (·.1):=by
 rw[a2B];split
 ·exact h
 .exact a1f _ h
set_option tactic.hygienic true in
theorem Fnd.put{n:Int}{k:Nat}{g:Int}{w:Int×List Int}(h:Fnd n k fk)(ew:Ent n k (g,w)):Fnd n k (a95 fk g w):=by
 refine⟨λz hz=>?_,?_⟩
 .unfold a95 at hz;split at hz
  .obtain⟨y,hy,rfl⟩:=jz.mp hz;split
   ·rename_i e;rw[e];exact ew
   .exact h.ent y hy
  .rcases xu.mp hz with hz|hz
   .exact h.ent z hz
   .rw[su.mp hz];exact ew
 .rw[a2B];split
  ·exact h.nd
  .rename_i hs
   have hn:wB fk g=aq:=by cases q:wB fk g with
    |none=>rfl
    |some v=>rw[q]at hs;exact absurd rfl hs
   rw[List.nodup_append];refine⟨h.nd,by simp,λa ha b hb e=>?_⟩;obtain⟨z,hz,rfl⟩:=jz.mp ha;simp at hb;exact a2A hn z hz (e.trans hb)
noncomputable def wV(w:Int×List Int):D:=.tup [.int w.1,.tup (w.2.map D.int)]
noncomputable def wD(z:Way):DK×D:=(.inl (.inl z.1),wV z.2)
theorem ak5{g:Int}:∀{fk:List Way},nP (fk.map wD) (.inl (.inl g))=(wB fk g).map wV
 |[]=>rfl
 |z::r=>by
  rw[qd];unfold nP wB;by_cases c:z.1=g
  .rw[if_pos (show(wD z).1=.inl (.inl g)from by rw[←c];rfl),if_pos c];rfl
  .rw[if_neg (show ¬ (wD z).1=.inl (.inl g)from λq=>c (by
    have q:(Sum.inl (Sum.inl z.1):DK)=.inl (.inl g):=q;simpa using q)),if_neg c]
   exact ak5
theorem aL3{g:Int}{w:Int×List Int}{fk:List Way}:zW (fk.map wD) (.inl (.inl g)) (wV w)=(a95 fk g w).map wD:=by
 unfold zW a95;rw[ak5];have e:((wB fk g).map wV).isSome=(wB fk g).isSome:=by cases wB fk g<;>rfl
 rw[e];split
 ·rw[mj,mj];refine a1o λz _=>?_;simp only[Function.comp];by_cases c:z.1=g
  .rw[if_pos (show(wD z).1=.inl (.inl g)from by rw[←c];rfl),if_pos c];rfl
  .rw[if_neg (show ¬ (wD z).1=.inl (.inl g)from λq=>c (by
    have q:(Sum.inl (Sum.inl z.1):DK)=.inl (.inl g):=q;simpa using q)),if_neg c]
 .rw[zq];rfl
structure DW(G:Gp)(w:bx)(od:Obj)(kvs:List Way)(f:bx)(fk:List Way)(G':Gp):Prop where
 hw:G' w=aj (.rdc od ao (kvs.map wD))
 hf:G' f=aj (.lF ao (fk.map wD))
 old:∀q u,q≠w->G q=aj u->G' q=aj u
theorem DW.put{w:bx}{fk':List Way}(h:DW G w od kvs f fk G')(hf:G f=aq):DW G w od kvs f fk' (aL G' f (.lF ao (fk'.map wD))):=by
 refine⟨?_,aH,λq u n e=>?_⟩
 .rw[bC (λz=>by have:=h.hw;rw[z,h.hf]at this;cases this)];exact h.hw
 .rw[bC (λz=>by subst z;rw[hf]at e;cases e)];exact h.old q u n e
theorem DW.le{w:bx}(h:DW G w od kvs f fk G')(l:Le G' G2):DW G w od kvs f fk G2:=⟨l _ _ h.hw,l _ _ h.hf,λq u n e=>l _ _ (h.old q u n e)⟩
theorem asD{g:Nat}{w:bx}{ps:List Int}{k:Nat}{z:Way}{gl:Int}(o:OkP x y g)(s:DW G w od kvs f fk G')(hp:aM G' p=aj (ps.map D.int))(hz:Ent ((y:Int)+1) k z)(hl:k<1000)(hg:gl=0∨gl=(y:Int)+1)(hF:Fnd ((y:Int)+1) (k+1) fk)
  (h:∀r7 w',Fnd ((y:Int)+1) (k+1) (a95 fk gl w')->F.nx [aj (lQ x y g),aj (.ref p),aj (.ref w),aj (.ref f),aj (.int z.1),aj (wV z.2),aj (.int gl),r7] (aL G' f (.lF ao ((a95 fk gl w').map wD)))) :
  jG K A ex F [aj (lQ x y g),aj (.ref p),aj (.ref w),aj (.ref f),aj (.int z.1),aj (wV z.2),aj (.int gl),r7] G':=by
 have big:10000<dg:=by decide
 have zl:z.2.2.length=k:=hz.1.len
 have key:∀(w':Int×List Int) r7,Ent ((y:Int)+1) (k+1) (gl,w')->ae3 (.ref f) (.int gl) (wV w') F [aj (lQ x y g),aj (.ref p),aj (.ref w),aj (.ref f),aj (.int z.1),aj (wV z.2),aj (.int gl),r7] G':=λw' r7 hw'=>by
  rw[ay1 s.hf a08 rfl (by rw[jc];have:=hF.two;omega),aL3];exact h _ _ (hF.put hw')
 have nx:∀c:Int,Ent ((y:Int)+1) (k+1) (gl,c,z.2.2++[gl]):=λc=>⟨hz.1.snoc hg,yR⟩;unfold wV at key ⊢;exists jG;refine ayK o hp λc=>?_;walk_at "wr";refine⟨by omega,?_⟩;exists m9,arG s.hf;rw[a6T s.hf a08 rfl,ak5];have e1:z.2.2.map D.int++[.int gl]=(z.2.2++[gl]).map D.int:=by simp
 rw[e1];cases q:wB fk gl with
 |none=>exact ajQ (λ_=>by walk_at "wr";exact key (z.2.1+c,z.2.2++[gl]) _ (nx _)) λ_=>by walk_at "wr";exact key (z.2.1+c,z.2.2++[gl]) _ (nx _)
 |some v=>exact ajQ (λ_=>by walk_at "wr";exact key (z.2.1+c,z.2.2++[gl]) _ (nx _)) λ_=>by walk_at "wr";exact key v _ (hF.ent _ (a0W q))
set_option tactic.hygienic true in
theorem aFJ{g:Nat}{w:bx}{ps:List Int}{k0:Nat}{kvs:List Way}(o:OkP x y g)(hp:aM G p=aj (ps.map D.int))(hw:G w=aj (.lF ao (kvs.map wD)))(hW:Fnd ((y:Int)+1) k0 kvs)(ne:kvs≠[])(hl:k0<1000)
  (h:∀f G' fk,Le G G'->G' f=aj (.lF ao (fk.map wD))->Fnd ((y:Int)+1) (k0+1) fk->0∈fk.map (·.1)->R (.ref f) G'):jH K A [lQ x y g,.ref p,.ref w] G R EX:=by
 have big:10000<dg:=by decide
 refine⟨rfl,?_⟩;show pI K A _ _ [aj (lQ x y g),aj (.ref p),aj (.ref w),aq,aq,aq,aq,aq] G;exists pI;intro f hf;exists tY;rw[ay2 (fU hw hf)];intro od;have wf:w≠f:=a1X hw hf
 have pw:∀{G':Gp}{fk:List Way},DW G w od kvs f fk G'->aM G' p=aj (ps.map D.int):=λ{G' fk} s=>by
  unfold L2.aM at hp ⊢;split at hp
  .rename_i e;rw[s.old p _ (λz=>by rw[z,hw]at e;cases e) e];exact hp
  .rename_i e;rw[s.old p _ (λz=>by rw[z,hw]at e;cases e) e];exact hp
  .cases hp
 refine arI (λk ρ G'=>∃r4 r5 r6 r7 fk,ρ=[aj (lQ x y g),aj (.ref p),aj (.ref w),aj (.ref f),r4,r5,r6,r7]/\DW G w od kvs f fk G'/\Fnd ((y:Int)+1) (k0+1) fk/\(0<k->0∈fk.map (·.1))) ⟨_,_,_,_,[],rfl,⟨aH,?_,λq u n e=>?_⟩,⟨(λz hz=>by cases hz),a1B⟩,λz=>absurd z (by omega)⟩ (λk ρ G' h=>?_) (λk q ρ G' hk h=>?_) λρ G' h=>?_
 .rw[bC (Ne.symm wf)];exact aH
 .rw[bC n];exact fU e hf
 .obtain⟨_,_,_,_,fk,rfl,s,hF⟩:=h;exact s.hw
 .obtain⟨_,_,_,_,fk,rfl,s,hF,h0⟩:=h;obtain⟨z,hz,rfl⟩:=a6U hk;have ez:=hW.ent z (lq hz);show a2S [4,5] (.tup [.int z.1,wV z.2]) _ _;rw[a6S rfl];walk_at "wr";unfold lQ;exists qN;refine alY rfl λa ha=>?_;have la:=arL ha;have af:a≠f:=λe=>by subst e;rcases ha with ha|ha<;>(rw[s.hf]at ha;cases ha)
  refine arN (λm ρ G2=>∃r6 r7 fk2,ρ=[aj (lQ x y g),aj (.ref p),aj (.ref w),aj (.ref f),aj (.int z.1),aj (wV z.2),r6,r7]/\DW G w od kvs f fk2 G2/\G2 a=aj (.tpl [.int 0,.int ((y:Int)+1)])/\Fnd ((y:Int)+1) (k0+1) fk2/\(0<m->0∈fk2.map (·.1))) ⟨_,_,fk,rfl,s.le la,aH,hF,λz=>absurd z (by omega)⟩ (λm ρ G2 h=>?_) (λm d ρ G2 hd h=>?_) λρ G2 h=>?_
  .obtain⟨_,_,_,_,_,ht,_⟩:=h;exact ht
  .obtain⟨_,_,fk2,rfl,s2,ht,hF2,hz2⟩:=h
   obtain⟨gl,hg,rfl,e0⟩:∃gl:Int,(gl=0∨gl=(y:Int)+1)/\d=.int gl/\(m=0->gl=0):=by
    match m,hd with
    |0,hd=>exact⟨0,.inl rfl,(jk.inj hd).symm,λ_=>rfl⟩
    |1,hd=>exact⟨(y:Int)+1,.inr rfl,(jk.inj hd).symm,λe=>by cases e⟩
    |m+2,hd=>exact absurd (gj.mp hd).1 (by simp)
   walk_at "wr";refine asD o s2 (pw s2) ez hl hg hF2 λr7 w' hF'=>?_;refine⟨_,_,_,rfl,s2.put hf,by rw[bC af];exact ht,hF',λ_=>?_⟩;by_cases m0:m=0
   .rw[e0 m0];exact asB
   .exact asC (hz2 (by omega))
  .obtain⟨_,_,fk2,rfl,s2,ht,hF2,hz2⟩:=h;exact⟨_,_,_,_,fk2,rfl,s2,hF2,λ_=>hz2 (Nat.zero_lt_succ _)⟩
 .obtain⟨_,_,_,_,fk,rfl,s,hF,h0⟩:=h;rw[jc]at h0;exists tX;refine aY.here (h f _ fk (λq u e=>?_) (by rw[bC (Ne.symm wf)];exact s.hf) hF (h0 (List.length_pos_iff.mpr ne)));by_cases c:q=w
  .subst c;rw[aH];rw[hw]at e;exact e
  .rw[bC c];exact s.old q u c e
theorem aFK{g:Nat}{pss:List (List Int)}(o:OkP x y g)(ha:Ais G al pss)(hl:pss.length<1000)
  (h:∀es G',Le G G'->Ens ((y:Int)+1) pss.length es->xZ 0 es=0->R (.tup (es.map D.int)) G'):gF K A [lQ x y g,.ref al] G R EX:=by
 refine⟨rfl,?_⟩;show lX K A _ _ [aj (lQ x y g),aj (.ref al),aq,aq] G;exists lX;intro w hw;walk_at "wr";rw[a6T (t:=false) aH a08 rfl];refine⟨by decide,?_⟩
 have lw:Le G (aL (aL G w (.lF ao [])) w (.lF ao (zW [] (.inl (.inl 0)) (.tup [.int 0,.tup []])))):=λa u e=>by
  have:a≠w:=a1X e hw;rw[bC this,bC this];exact e
 obtain⟨rs,h1,h2,h3⟩:=ha;exists p8;rw[mZ (bK (lw _ _ h1))];refine qH (λk ρ G'=>∃r3 w kvs,ρ=[aj (lQ x y g),aj (.ref al),aj (.ref w),r3]/\Le G G'/\G' w=aj (.lF ao (kvs.map wD))/\Fnd ((y:Int)+1) k kvs/\0∈kvs.map (·.1)) ⟨_,w,[(0,0,[])],rfl,lw,aH,⟨(λz hz=>by rw[su.mp hz];exact⟨⟨rfl,λg hg=>by cases hg⟩,rfl⟩),by simp⟩,by simp⟩ (λk ρ G' h=>?_) (λk d ρ G' hd h=>?_) λρ G' h=>?_
 .obtain⟨_,_,_,_,l,_⟩:=h;exact bK (l _ _ h1)
 .obtain⟨_,w,kvs,rfl,l,hk,hW,h0⟩:=h;obtain⟨r,hr,rfl⟩:=a6U hd;have kl:k<pss.length:=by rw[←h2];exact(gj.mp hr).1
  have hp:=h3 k r _ hr (gw kl);exists nU;refine aFJ o (bK (l _ _ hp)) hk hW (λe=>by subst e;cases h0) (by omega) λf G2 fk l2 hf hW2 h2=>?_;walk_at "wr";exact⟨_,f,fk,rfl,l.trans l2,hf,hW2,h2⟩
 .obtain⟨_,w,kvs,rfl,l,hk,hW,h0⟩:=h;rw[jc,h2]at hW
  obtain⟨v,v1⟩:∃v,wB kvs 0=aj v:=by
   cases q:wB kvs 0 with
   |some v=>exact⟨v,rfl⟩
   |none =>
    obtain⟨z,hz,e⟩:=jz.mp h0;exact absurd e (a2A q z hz)
  have⟨v2,v3⟩:=hW.ent _ (a0W v1);exists p7;rw[ay0 hk a08 rfl (d:=wV v) (by rw[ak5,v1];rfl)];unfold wV;walk_at "wr";exact aY.here (h v.2 G' l v2 v3)
theorem ayM{q:bx}{qs:List (Int×Int)}(c:Int->Int->Bool)(f:Int->Int->Int)(hq:aM G q=aj (qs.map eG))(hl:qs.length<1000)
  (hc:∀u v G',Le G G'->∀Q:Bool->Gp->Prop,(∀G'',Le G' G''->Q (c u v) G'')->tc (aj (.int u)::aj (.int v)::ρ) G' Q)
  (he:∀u v G',Le G G'->∀Q:D->Gp->Prop,(∀G'',Le G' G''->Q (.int (f u v)) G'')->te (aj (.int u)::aj (.int v)::ρ) G' Q)
  (h:∀p,G p=aq->R (.ref p) (aL G p (.lst (((qs.filter λq=>c q.1 q.2).map λq=>f q.1 q.2).map D.int)))):aeX (aoS 2) (.lst q (qs.map eG)) tc te ρ G R:=by
 have big:10000<dg:=by decide
 let g1:D->Int:=λd=>match d with|.tup [.int u,_]=>u|_=>0
 let g2:D->Int:=λd=>match d with|.tup [_,.int v]=>v|_=>0
 refine a06 (λd=>match d with|.tup xs=>xs|_=>[]) (λd=>c (g1 d) (g2 d)) (λd=>.int (f (g1 d) (g2 d))) (by show(qs.map eG).length<_;rw[jc];omega) hq (λd hd=>?_) (λd hd G' l Q h=>?_) (λd hd _ G' l Q h=>?_) λp hp=>?_
 .obtain⟨q,_,rfl⟩:=jz.mp hd;rfl
 .obtain⟨q,_,rfl⟩:=jz.mp hd;exact hc _ _ G' l Q h
 .obtain⟨q,_,rfl⟩:=jz.mp hd;exact he _ _ G' l Q h
 .have e:((qs.map eG).filter λd=>c (g1 d) (g2 d)).map (λd=>D.int (f (g1 d) (g2 d)))=((qs.filter λq=>c q.1 q.2).map λq=>f q.1 q.2).map D.int:=by
   rw[List.filter_map,mj,mj];rfl
  show R _ (aL G p (.lst (((qs.map eG).filter _).map _)));rw[e];exact h p hp
noncomputable def a96(bs:List (Int×Int))(i:Int):List Int:=(bs.filter λq=>decide (q.1=i)).map (·.2)
noncomputable def oG(bs:List (Int×Int)):Int:=if bs=[]then -1 else mxL (bs.map (·.1))
noncomputable def plc(bs:List (Int×Int)):List (List Int):=(jy (oG bs+1).toNat).map λ(i:Nat)=>a96 bs i
def InB(x y:Nat)(q:Int×Int):Prop:=0<=q.1/\q.1<x/\1<=q.2/\q.2<=(y:Int)
theorem amE{bs:List (Int×Int)}{k:Nat}{q:Int×Int}(h:bs[k]?=aj q):a96 (bs.take (k+1)) i=if q.1=i then a96 (bs.take k) i++[q.2]else a96 (bs.take k) i:=by
 unfold a96;rw[take_snoc h,List.filter_append,zq];by_cases c:q.1=i<;>simp[c]
set_option tactic.hygienic true in
theorem asF{bs:List (Int×Int)}(hx:1<=x)(h:∀q∈bs,InB x y q):-1<=oG bs/\oG bs<x:=by
 unfold oG;split
 ·omega
 .rename_i n;obtain⟨q,hq,e⟩:=jz.mp (a1Z (show bs.map (·.1)≠[] by simpa using n)).1;have⟨h1,h2,_⟩:=h q hq;rw[←e];omega
theorem afS{bs:List (Int×Int)}{q:Int×Int}(h:q∈bs):q.1<=oG bs:=by
 unfold oG;have n:bs≠[]:=λe=>by subst e;cases h
 rw[if_neg n];exact(a1Z (show bs.map (·.1)≠[] by simpa using n)).2 _ (jz.mpr ⟨q,h,rfl⟩)
theorem ak6{bs:List (Int×Int)}:(plc bs).length=(oG bs+1).toNat:=by simp[plc]
theorem asG{bs:List (Int×Int)}{k:Nat}(h:k<(oG bs+1).toNat):(plc bs)[k]?=aj (a96 bs k):=by
 unfold plc;rw[nu,List.getElem?_range h];rfl
theorem aFL{bs:List (Int×Int)}(h:∀q∈bs,InB x y q):OkA y (plc bs):=λps hps p hp=>by
 obtain⟨i,_,rfl⟩:=jz.mp hps;obtain⟨q,hq,rfl⟩:=jz.mp hp;have⟨_,_,a,b⟩:=h q (a2k.mp hq).1;exact⟨a,b⟩
theorem asH{xs:List (Int×Int)}{k:Nat}(h:(xs.map eG)[k]?=aj d):∃q,xs[k]?=aj q/\d=eG q:=by
 obtain⟨q,e,rfl⟩:=a6U h;exact⟨q,e,rfl⟩
theorem asI{bs:List (Int×Int)}{rs:List bx}(hb:aM G b=aj (bs.map eG))(h0:∀q∈bs,0<=q.1)(bl:bs.length<1000)(hr:rs.length=(oG bs+1).toNat)(nd:rs.Nodup)(fr:∀r∈rs,G r=aq/\r≠al)(fal:G al=aq)(l:Le G G1)(h1:G1 al=aj (.lst (rs.map D.ref)))(h2:∀r∈rs,G1 r=aj (.lst []))
  (h:∀G',Le G G'->Ais G' al (plc bs)->F.rt (.ref al) G'):gR K A ex F [aj (.ref b),r1,aj (.ref al),r3,r4] G1:=by
 have big:10000<dg:=by decide
 exists gR;rw[mZ (cM l hb)];refine qH (λk ρ G'=>∃r3 r4,ρ=[aj (.ref b),r1,aj (.ref al),r3,r4]/\Le G G'/\G' al=aj (.lst (rs.map D.ref))/\∀(i:Nat) r,rs[i]?=aj r->G' r=aj (.lst ((a96 (bs.take k) i).map D.int))) ⟨_,_,rfl,l,h1,λi r e=>h2 r (lq e)⟩ (λk ρ G' h=>?_) (λk d ρ G' hd h=>?_) λρ G' h=>?_
 .obtain⟨_,_,_,l,_⟩:=h;exact cM l hb
 .obtain⟨_,_,rfl,l,ha,hrs⟩:=h;obtain⟨⟨i,j⟩,hq,rfl⟩:=asH hd;have qm:=lq hq;have i0:=h0 _ qm;have il:=afS qm;simp only at i0 il;obtain⟨n,rfl⟩:∃n:Nat,i=(n:Int):=⟨i.toNat,by omega⟩;have ir:n<rs.length:=by rw[hr];omega
  have hri:=hrs n _ (gw ir);have⟨f1,f2⟩:=fr _ (List.getElem_mem ir);unfold eG;rw[a6S rfl];exists lJ;rw[yK (bK ha) (d:=.ref rs[n]) (by rw[sE,nu];simp[ir])];walk_at "wr";rw[wR,bK hri];refine⟨rfl,?_⟩;walk_at "wr"
  rw[a07 hri (by
   rw[jc];have:(a96 (bs.take k) n).length<=(bs.take k).length:=by unfold a96;rw[jc];exact List.length_filter_le _ _
   rw[wj]at this;omega)]
  refine⟨_,_,rfl,λa u e=>?_,?_,λm r em=>?_⟩
  .rw[bC (a1X e f1)];exact l a u e
  .rw[bC (Ne.symm f2)];exact ha
  .rw[amE hq];by_cases c:m=n
   .subst c;rw[gw ir]at em;cases em;rw[aH,if_pos rfl,zq];rfl
   .have rn:r≠rs[n]:=λe=>c (by
     have hm:=(gj.mp em);obtain⟨hm1,hm2⟩:=hm;exact(List.getElem_inj nd).mp (hm2.trans e))
    rw[bC rn,if_neg (show ¬ (n:Int)=(m:Int) by omega)];exact hrs m r em
 .obtain⟨_,_,rfl,l,ha,hrs⟩:=h;rw[jc,a0t]at hrs;exists m8;refine h G' l ⟨rs,ha,by rw[ak6];exact hr,λk r ps hk hp=>?_⟩;rw[asG (by rw[←hr];exact(gj.mp hk).1)]at hp;cases hp;exact hrs k r hk
set_option tactic.hygienic true in
theorem ayN{bs:List (Int×Int)}(h:∀q∈bs,0<=q.1/\q.1<100):-1<=oG bs/\oG bs<100:=by
 unfold oG;split
 ·omega
 .rename_i n;obtain⟨q,hq,e⟩:=jz.mp (a1Z (show bs.map (·.1)≠[] by simpa using n)).1;have:=h q hq;rw[←e];omega
theorem afT{bs:List (Int×Int)}{m:Int}(hb:aM G b=aj (bs.map eG))(h0:∀q∈bs,0<=q.1/\q.1<100)(bl:bs.length<1000)(em:m=oG bs)(l:Le G G1)(h:∀al G',Le G G'->Ais G' al (plc bs)->F.rt (.ref al) G'):gU K A ex F [aj (.ref b),aj (.int m),r2,r3,r4] G1:=by
 have big:10000<dg:=by decide
 have mb:=ayN h0;rw[←em]at mb;exists gU;have il:(Src.yZ (zO 0 (m+1))).items.length=(m+1).toNat:=by show(zO 0 (m+1)).length=_;rw[axW,Int.sub_zero]
 refine⟨by rw[il];omega,λp hp=>⟨λk ds G'=>∃rs:List bx,ds=rs.map D.ref/\rs.length=k/\rs.Nodup/\(∀r∈rs,G' r=aj (.lst [])/\G1 r=aq/\r≠p)/\G' p=aj (.lst ds)/\Le G1 G',⟨[],rfl,rfl,a1B,(λr hr=>by cases hr),aH,.new hp⟩,λk ds G' hk h=>?_,λk d ds G' hd h=>?_,λds G' h=>?_⟩⟩
 .obtain⟨rs,rfl,rl,_,_,hp',_⟩:=h;exact⟨trivial,hp',by rw[jc];omega⟩
 .obtain⟨rs,rfl,rl,nd,fr,hp',l1⟩:=h;refine⟨[d],rfl,?_⟩;dsimp only[L2.lV];rw[if_pos rfl];walk_at "wr";intro q hq;have qp:q≠p:=λe=>by subst e;rw[hp']at hq;cases hq
  refine⟨by rw[bC (Ne.symm qp)];exact hp',rs++[q],by simp,by simp[rl],?_,λr hr=>?_,aH,λa u e=>?_⟩
  .rw[List.nodup_append];refine⟨nd,by simp,λa ha c hc e=>?_⟩;rw[su]at hc;subst hc e;rw[(fr a ha).1]at hq;cases hq
  .rcases xu.mp hr with hr|hr
   .have⟨f1,f2,f3⟩:=fr r hr;refine⟨?_,f2,f3⟩;rw[bC f3,bC (λe=>by subst e;rw[f1]at hq;cases hq)];exact f1
   .rw[su]at hr;subst hr;exact⟨by rw[bC qp];exact aH,l1.free hq,qp⟩
  .have ap:a≠p:=a1X e hp;rw[bC ap];exact fU (l1 a u e) hq
 .obtain⟨rs,rfl,rl,nd,fr,hp',l1⟩:=h;rw[il]at rl;refine⟨G',.refl _,?_⟩;walk_at "wr";refine asI hb (λq hq=>(h0 q hq).1) bl (by rw[←em];exact rl) nd (λr hr=>⟨l.free (fr r hr).2.1,(fr r hr).2.2⟩) (l.free hp) (l.trans l1) hp' (λr hr=>(fr r hr).1) λG2 l2 ha=>h p G2 l2 ha
theorem asJ{bs:List (Int×Int)}(hb:aM G b=aj (bs.map eG))(h0:∀q∈bs,0<=q.1/\q.1<100)(bl:bs.length<1000)(h:∀al G',Le G G'->Ais G' al (plc bs)->R (.ref al) G'):eU K A [.ref b] G R EX:=by
 have big:10000<dg:=by decide
 refine⟨rfl,?_⟩;have h':∀al G',Le G G'->Ais G' al (plc bs)->aY R (.ref al) G':=λal G' a b=>aY.here (h al G' a b);show jF K A _ _ [aj (.ref b),aq,aq,aq,aq] G;exists jF;rw[qG hb];refine ayM (λ_ _=>ak) (λu _=>u) hb bl (λu v G' l Q h=>h G' (.refl _)) (λu v G' l Q h=>h G' (.refl _)) λp hp=>?_;have e:(bs.filter λ_=>ak)=bs:=a2p.mpr λ_ _=>rfl;rw[e];walk_at "wr";refine aF0 bD (λz=>?_) λM h1 h2=>?_
 .walk_at "wr";exact afT hb h0 bl (by unfold oG;rw[if_pos (by simpa using z)]) (.new hp) h'
 .walk_at "wr";refine afT hb h0 bl ?_ (.new hp) h';have n:bs≠[]:=λz=>by subst z;cases h1
  unfold oG;rw[if_neg n];exact aFI h1 h2
theorem amF{g:Nat}(o:OkP x y g)(hd:kn G d)(hc:∀x y,d=.tup [x,y]->kn G x/\kn G y)(h:R (.bl (isP d x 1 y)) G):xA K A [lQ x y g,d] G R EX:=by
 refine⟨rfl,?_⟩;show a75 K A _ _ [aj (lQ x y g),aj d] G;exists a75;refine kW o ?_;unfold lQ;exists a74;exact am8 hd hc (aY.here h)
theorem a3G{g:Nat}(o:OkP x y g)(hd:kn G d)(hc:∀x y,d=.tup [x,y]->kn G x/\kn G y)(h0:isP d x 1 y=ao->EX A.cA G)(h1:isP d x 1 y=ak->R .non G):oZ K A [lQ x y g,d] G R EX:=by
 refine⟨rfl,?_⟩;show yM K A _ _ [aj (lQ x y g),aj d] G;exists yM;refine amF o hd hc ?_;walk_at "wr";exact akZ (λe=>fO.here (h0 e)) λe=>aY.here (h1 (by simpa using e))
def Cov(qs:List P2)(q:P2):Prop:=∃(k:Nat)(a b:P2),qs[k]?=aj a/\qs[k+1]?=aj b/\q∈tD a b
theorem Cov.eN(h:Cov qs q):Cov (eN qs r) q:=by
 unfold Law.eN;split
 ·exact h
 .obtain⟨k,a,b,h1,h2,h3⟩:=h;exact⟨k,a,b,by rw[pq (gj.mp h1).1];exact h1,by rw[pq (gj.mp h2).1];exact h2,h3⟩
theorem Cov.fold:∀{ws qs:List P2}{q:P2},Cov qs q->Cov (ws.foldl Law.eN qs) q
 |[],_,_,h=>h
 |r::ws,qs,q,h=>Cov.fold (ws:=ws) (qs:=Law.eN qs r) h.eN
theorem ak8{b:P2}(n:a≠b)(h:q∈tD a b):Cov (eN (eN qs a) b) q:=by
 have hl:=kY (qs:=qs) (q:=a);have l0:=(gj.mp hl).1;generalize Law.eN qs a=rs at hl l0;unfold Law.eN;rw[if_neg (by rw[hl];intro e;exact n (jk.inj e))];refine⟨rs.length - 1,a,b,by rw[pq l0];exact hl,?_,h⟩;rw[show rs.length - 1+1=rs.length by omega,uo (dw _),Nat.sub_self];rfl
theorem afU{a p q r:Int}(h:(p<r/\r<=q)∨(q<=r/\r<p)):(a,r)∈tD (a,p) (a,q):=by
 unfold tD;rw[if_pos rfl];refine jw _ ?_;unfold as9 aKZ cnt m6;rcases h with h|h
 .refine jz.mpr ⟨(r - p).toNat - 1,xg.mpr (by simp only;omega),Prod.ext rfl ?_⟩;simp only;rw[if_pos (by omega)];omega
 .refine jz.mpr ⟨(p - r).toNat - 1,xg.mpr (by simp only;omega),Prod.ext rfl ?_⟩;simp only;rw[if_neg (by omega)];omega
def SpR(i:Int)(ps:List Int)(e g:Int)(ws:List (Int×Int)):Prop:=(g≠e/\ws=[(i,e),(i,g)])∨(g=e/\ps=[]/\ws=[])∨(g=e/\∃M,aL2 ps e M/\ws=[(i,e),(i,M),(i,e)])
theorem ayO{ps:List Int}{gl:Int}(hp:aM G p=aj (ps.map D.int))(h:∀r ws G',Le G G'->G r=aq->G' r=aj (.lst (ws.map eG))->SpR i ps e gl ws->R (.ref r) G'):iR K A [.int i,.ref p,.int e,.int gl] G R EX:=by
 refine⟨rfl,?_⟩;have h':∀r ws G',Le G G'->G r=aq->G' r=aj (.lst (ws.map eG))->SpR i ps e gl ws->aY R (.ref r) G':=λr ws G' a b c d=>aY.here (h r ws G' a b c d);clear h;show nW K A _ _ [aj (.int i),aj (.ref p),aj (.int e),aj (.int gl)] G;exists nW;refine akZ (λc=>?_) λc=>?_
 .intro r hr;exact h' r [(i,e),(i,gl)] _ (.new hr) hr aH (.inl ⟨by simpa using c,rfl⟩)
 .have c:gl=e:=by simpa using c
  exists qP,wU hp;by_cases n:ps=[]
  .subst n;walk_at "wr";intro r hr;exact h' r [] _ (.new hr) hr aH (.inr (.inl ⟨c,rfl,rfl⟩))
  .have e0:((ps.length:Int)==0)=ao:=by simpa using n
   rw[e0];exists qO;refine a7R hp n λM hM=>?_;walk_at "wr";intro r hr;exact h' r [(i,e),(i,M),(i,e)] _ (.new hr) hr aH (.inr (.inr ⟨c,M,hM,rfl⟩))
theorem ayP{α:Type}{xs:List α}{l:α}(h:xs[xs.length - 1]?=aj l):zF xs (-1)=aj l:=by
 have n0:xs.length - 1<xs.length:=(gj.mp h).1
 have e:L2.ixN xs.length (-1)=aj (xs.length - 1):=by
  unfold L2.ixN;rw[if_neg (by decide)];have:-(xs.length:Int)<=-1:=by omega
  simp only[this,if_true];congr 1;omega
 unfold L2.zF;rw[e];exact h
theorem asK{qs:List (Int×Int)}(hp:G p=aj (.lst (qs.map eG)))(hl:qs[qs.length - 1]?=aj l)(ql:qs.length<1000)(h:∀G',HS G p ((eN qs q).map eG) G'->R .non G'):vP K A [.ref p,eG q] G R EX:=by
 have big:10000<dg:=by decide
 refine⟨rfl,?_⟩;have h':∀G',HS G p ((eN qs q).map eG) G'->aY R .non G':=λG' a=>aY.here (h G' a);clear h;unfold eN at h';show acE K A _ _ [aj (.ref p),aj (eG q)] G;exists acE;rw[yK (bK hp) (d:=eG l) (ayP (by rw[jc,nu,hl];rfl))];unfold eG at *;walk_at "wr";refine⟨rfl,rfl,?_⟩
 have ee:eqP (.tup [.int l.1,.int l.2]) (.tup [.int q.1,.int q.2])=decide (l=q):=by
  show(eqP (.int l.1) (.int q.1)&&(eqP (.int l.2) (.int q.2)&&ak))=_;rw[show eqP (.int l.1) (.int q.1)=(l.1==q.1)from rfl,show eqP (.int l.2) (.int q.2)=(l.2==q.2)from rfl,Bool.and_true];rcases l with⟨a,b⟩;rcases q with⟨c,d⟩;simp[Prod.ext_iff,Bool.decide_and];rfl
 rw[ee];walk_at "wr";by_cases c:l=q
 .rw[if_pos (by rw[hl,c])]at h';rw[if_neg (by simpa using c)];exact h' G ⟨hp,λr u _ e=>e⟩
 .rw[if_neg (by rw[hl];simpa using c)]at h';rw[if_pos (by simpa using c),wR,bK hp];refine⟨rfl,?_⟩;rw[a07 hp (by rw[jc];omega)];rw[zq]at h';exact h' _ (.put hp)
variable{es:List Int}
theorem asL{gl:Int}{k:Nat}{qs:List (Int×Int)}(hs:G s=aq)(h1:HS G s (qs.map eG) G1)(ha:G1 a=aj (.tpl (es.map D.int)))(hr:G1 r=aj (.lst (ws.map eG)))(rs:r≠s)(hl:qs[qs.length - 1]?=aj l)(ql:qs.length+ws.length<900)
  (h:∀r6 G',HS G s ((ws.foldl eN qs).map eG) G'->G' a=aj (.tpl (es.map D.int))->F.nx [aj (.ref al),aj (.tup (es.map D.int)),aj (.ref s),aj (.int e),aj (.int k),aj (.int gl),r6] G') :
  aaL (.lst r (ws.map eG)) (nO 6) (nY K A ex) F [aj (.ref al),aj (.tup (es.map D.int)),aj (.ref s),aj (.int e),aj (.int k),aj (.int gl),r6] G1:=by
 refine qH (λm ρ G'=>∃r6 l,ρ=[aj (.ref al),aj (.tup (es.map D.int)),aj (.ref s),aj (.int e),aj (.int k),aj (.int gl),r6]/\HS G s (((ws.take m).foldl eN qs).map eG) G'/\G' a=aj (.tpl (es.map D.int))/\G' r=aj (.lst (ws.map eG))/\((ws.take m).foldl eN qs)[((ws.take m).foldl eN qs).length - 1]?=aj l/\((ws.take m).foldl eN qs).length<=qs.length+m) ⟨_,l,rfl,h1,ha,hr,hl,by simp⟩ (λm ρ G' h=>?_) (λm d ρ G' hd h=>?_) λρ G' h=>?_
 .obtain⟨_,_,_,_,_,hr,_⟩:=h;exact bK hr
 .obtain⟨_,l2,rfl,s2,ha2,hr2,hl2,ql2⟩:=h;obtain⟨q,hq,rfl⟩:=asH hd;have mw:m<ws.length:=(gj.mp hq).1;exists nY;refine asK s2.1 hl2 (by omega) λG3 s3=>?_;have sa:a≠s:=λe=>by subst e;rw[s2.1]at ha2;cases ha2
  refine⟨_,q,rfl,by rw[yS hq];exact s2.trans s3,s3.2 a _ sa ha2,s3.2 r _ rs hr2,by rw[yS hq];exact kY,?_⟩;rw[yS hq];have:=xC (qs:=(ws.take m).foldl eN qs) (q:=q);omega
 .obtain⟨_,l2,rfl,s2,ha2,hr2,hl2,ql2⟩:=h;rw[jc,a0t]at s2;exact h _ G' s2 ha2
structure SpJ(x y:Nat)(pss:List (List Int))(e:Int)(k:Nat)(qs:List (Int×Int)):Prop where
 w:Walk x y qs
 ex:∃j:Nat,qs[qs.length - 1]?=aj ((j:Int),e)/\j<x
 len:qs.length<=1+3*k
 cov:∀(i:Nat) ps p,i<k->pss[i]?=aj ps->p∈ps->Cov qs ((i:Int),p)
theorem SpJ.start(hx:1<=x):SpJ x y pss 0 0 [(0,0)]:=by
 refine⟨⟨λq hq=>?_,λk q r _ hr=>?_⟩,⟨0,rfl,by omega⟩,by simp,λi ps p hi=>absurd hi (by omega)⟩
 .rw[su]at hq;subst hq;exact⟨by decide,by simp only;omega,by decide,by simp only;omega⟩
 .exact absurd (gj.mp hr).1 (by simp)
set_option tactic.hygienic true in
theorem SpJ.next{gl:Int}{k:Nat}(h:SpJ x y pss e k qs)(hp:pss[k]?=aj ps)(ok:∀p∈ps,1<=p/\p<=(y:Int))(el:e=0∨e=(y:Int)+1)(gi:gl=0∨gl=(y:Int)+1)(hk:k<x)(hw:SpR k ps e gl ws):SpJ x y pss gl (k+1) (ws.foldl eN qs):=by
 obtain⟨w,⟨j,hl,jx⟩,ql,cv⟩:=h;have i1:InP x y ((k:Int),e):=⟨by simp only;omega,by simp only;omega,by simp only;omega,by simp only;omega⟩;have q1:=rH w hl i1 (.inr ⟨rfl,el⟩);have s1:=xC (qs:=qs) (q:=((k:Int),e))
 have co:∀ws:List P2,(∀p∈ps,Cov (ws.foldl eN qs) ((k:Int),p))->∀(i:Nat) ps p,i<k+1->pss[i]?=aj ps->p∈ps->Cov (ws.foldl eN qs) ((i:Int),p):=λws hc i ps' p hi h1 h2=>by
  by_cases e:i=k
  .subst e;rw[hp]at h1;cases h1;exact hc p h2
  .exact(cv i ps' p (by omega) h1 h2).fold
 rcases hw with⟨c,rfl⟩|⟨c,n,rfl⟩|⟨c,M,⟨m1,m2⟩,rfl⟩
 .have i2:InP x y ((k:Int),gl):=⟨by simp only;omega,by simp only;omega,by simp only;omega,by simp only;omega⟩;have s2:=xC (qs:=eN qs ((k:Int),e)) (q:=((k:Int),gl));exact⟨rH q1 kY i2 (.inl rfl),⟨k,kY,hk⟩,by show(eN (eN qs _) _).length<=_;omega,co _ λp hp=>ak8 (λz=>c (Prod.ext_iff.mp z).2.symm) (afU (by have:=ok p hp;omega))⟩
 .subst n;exact⟨w,⟨j,by rw[c];exact hl,jx⟩,by show qs.length<=_;omega,co [] λp hp=>by cases hp⟩
 .have⟨f1,f2⟩:=ok M m1;have i2:InP x y ((k:Int),M):=⟨by simp only;omega,by simp only;omega,by simp only;omega,by simp only;omega⟩;have q2:=rH q1 kY i2 (.inl rfl);have s2:=xC (qs:=eN qs ((k:Int),e)) (q:=((k:Int),M));have s3:=xC (qs:=eN (eN qs ((k:Int),e)) ((k:Int),M)) (q:=((k:Int),e));refine⟨rH q2 kY i1 (.inl rfl),⟨k,by rw[c];exact kY,hk⟩,by show(eN (eN (eN qs _) _) _).length<=_;omega,co _ λp hp=>(ak8 (λz=>?_) (afU ?_)).eN⟩
  .have:=(Prod.ext_iff.mp z).2;simp only at this;omega
  .have:=ok p hp;by_cases e0:e=0
   .rw[if_pos e0]at m2;have:=m2 p hp;omega
   .rw[if_neg e0]at m2;have:=m2 p hp;omega
set_option tactic.hygienic true in
theorem ahP{g:Nat}{pss:List (List Int)}(o:OkP x y g)(ha:Ais G al pss)(hE:Ens ((y:Int)+1) pss.length es)(h0:xZ 0 es=0)(px:pss.length<=x)(ok:OkA y pss)
  (h:∀s qs G',Le G G'->G' s=aj (.lst (qs.map eG))->Walk x y qs->qs.length<=1000->(∀(i:Nat) ps p,pss[i]?=aj ps->p∈ps->Cov qs ((i:Int),p))->R (.ref s) G'):pA K A [.ref al,.tup (es.map D.int)] G R EX:=by
 have ox:=o.x1;refine⟨rfl,?_⟩;show yO K A _ _ [aj (.ref al),aj (.tup (es.map D.int)),aq,aq,aq,aq,aq] G;exists yO;intro s hs;exists a0L,a0K;refine arM λa ht=>?_;have sa:s≠a:=λe=>by subst e;rw[aH]at ht;rcases ht with ht|ht<;>cases ht
 obtain⟨rs,a1,a2,a3⟩:=ha;refine arO (λk ρ G'=>∃r4 r5 r6 qs,ρ=[aj (.ref al),aj (.tup (es.map D.int)),aj (.ref s),aj (.int (xZ 0 (es.take k))),r4,r5,r6]/\HS G s (qs.map eG) G'/\G' a=aj (.tpl (es.map D.int))/\SpJ x y pss (xZ 0 (es.take k)) k qs) ⟨_,_,_,[(0,0)],rfl,HS.mk0.more (arL ht),aH,.start o.x0⟩ (λk ρ G' h=>?_) (λk d ρ G' hd h=>?_) λρ G' h=>?_
 .obtain⟨_,_,_,_,_,_,ht,_⟩:=h;exact ht
 .obtain⟨_,_,_,qs,rfl,s2,ht2,hi⟩:=h;obtain⟨gl,hg,rfl⟩:=a6U hd;have kl:k<pss.length:=by rw[←hE.len];exact(gj.mp hg).1
  have kr:k<rs.length:=by rw[a2];exact kl
  have hp:=a3 k _ _ (gw kr) (gw kl);have l2:=s2.leG hs;obtain⟨j,hl,_⟩:=hi.ex;have aP4:=hi.len;rw[a6S rfl];exists xX;rw[yK (bK (l2 _ _ a1)) (d:=.ref rs[k]) (by rw[sE,nu];simp[kr])];walk_at "wr";refine ayO (bK (l2 _ _ hp)) λr ws G3 l3 hr3 hr hR=>?_;walk_at "wr";rw[mZ (bK hr)];have wl:ws.length<=3:=by rcases hR with⟨_,rfl⟩|⟨_,_,rfl⟩|⟨_,_,_,rfl⟩<;>simp
  have eE:Ens ((y:Int)+1) k (es.take k):=⟨by rw[wj,hE.len];omega,λf hf=>hE.inn f (List.mem_of_mem_take hf)⟩;refine asL hs (s2.more l3) (l3 _ _ ht2) hr (λe=>by subst e;rw[s2.1]at hr3;cases hr3) hl (by omega) λr6 G4 s4 ht4=>?_;exists tZ;have nx:=hi.next (gw kl) (ok _ (List.getElem_mem kl)) eE.last (hE.inn gl (lq hg)) (by omega) hR;exact⟨_,_,_,_,by rw[take_snoc hg,yR],s4,ht4,by rw[take_snoc hg,yR];exact nx⟩
 .obtain⟨_,_,_,qs,rfl,s2,ht2,hi⟩:=h;rw[jc,a0t,h0,hE.len]at hi;obtain⟨j,hl,jx⟩:=hi.ex;have aP4:=hi.len;exists a0J;refine asK (q:=(0,0)) s2.1 hl (by omega) λG3 s3=>?_;exists a0I;have s4:=s2.trans s3;have gl:=xC (qs:=qs) (q:=((0:Int),(0:Int)));have ox0:=o.x0;exact aY.here (h s _ G3 (s4.leG hs) s4.1 (rH hi.w hl ⟨by decide,by simp only;omega,by decide,by simp only;omega⟩ (.inr ⟨rfl,.inl rfl⟩)) (by omega) λi ps p h1 h2=>(hi.cov i ps p (gj.mp h1).1 h1 h2).eN)
theorem asM{bs:List (Int×Int)}(h:(i,j)∈bs):j∈a96 bs i:=jz.mpr ⟨(i,j),a2k.mpr ⟨h,by simp⟩,rfl⟩
theorem w_walk{g:Nat}{bs:List (Int×Int)}(o:OkP x y g)(hb:aM G b=aj (bs.map eG))(hB:∀q∈bs,InB x y q)(bl:bs.length<1000)
  (h:∀s qs G',Le G G'->G' s=aj (.lst (qs.map eG))->Walk x y qs->qs.length<=1000->(∀q∈bs,Cov qs q)->R (.ref s) G'):mV K A [lQ x y g,.ref b] G R EX:=by
 have ox:=o.x1;refine⟨rfl,?_⟩;show yP K A _ _ [aj (lQ x y g),aj (.ref b),aq,aq] G;exists yP;refine kW o ?_;exists a7A;rw[mZ hb];refine qH (λk ρ G'=>∃r2,ρ=[aj (lQ x y g),aj (.ref b),r2,aq]/\Le G G') ⟨_,rfl,.refl _⟩ (λk ρ G' h=>?_) (λk d ρ G' hd h=>?_) λρ G' h=>?_
 .obtain⟨_,_,l⟩:=h;exact cM l hb
 .obtain⟨_,rfl,l⟩:=h;obtain⟨q,hq,rfl⟩:=asH hd;have⟨h1,h2,h3,h4⟩:=hB q (lq hq);exists a1Y;refine a3G o ahA (λa b e=>by cases e;exact⟨rfl,rfl⟩) (λe=>?_) λ_=>?_
  .rw[show isP (eG q) x 1 y=ak by rw[as8];simp;omega]at e;cases e
  walk_at "wr";exact⟨_,rfl,l⟩
 .obtain⟨_,rfl,l⟩:=h;have la:=asF o.x0 hB;have pl:(plc bs).length<=x:=by rw[ak6];omega
  exists afE;refine asJ (cM l hb) (λq hq=>⟨(hB q hq).1,by have:=(hB q hq).2.1;omega⟩) bl λal G2 l2 ha=>?_;exists afD;refine aFK o ha (by omega) λes G3 l3 e1 e2=>?_;walk_at "wr";refine ahP o (ha.le l3) e1 e2 pl (aFL hB) λs qs G4 l4 hs w ql cv=>?_;refine aY.here (h s qs G4 (l.trans (l2.trans (l3.trans l4))) hs w ql λq hq=>?_);obtain⟨i,j⟩:=q;have i0:=(hB _ hq).1;simp only at i0;obtain⟨ii,rfl⟩:∃ii:Nat,i=(ii:Int):=⟨i.toNat,by omega⟩;have il:=afS hq;simp only at il;exact cv ii _ j (asG (by omega)) (asM hq)
set_option tactic.hygienic true in
theorem a0X(h:jO d=ak):∃x y g:Nat,d=lQ x y g/\OkP x y g:=by
 unfold jO at h;split at h
 .rename_i x y z;rw[bw,bw]at h;obtain⟨h1,h2,h3⟩:=h;unfold isW at h1 h2 h3;split at h1
  .rename_i a;split at h2
   .rename_i b;split at h3
    .rename_i c;simp only[bw,decide_eq_true_eq]at h1 h2 h3;refine⟨a.toNat,b.toNat,c.toNat,?_,by omega,by omega,by omega,by omega,by omega,by omega⟩;unfold lQ;rw[Int.toNat_of_nonneg (by omega),Int.toNat_of_nonneg (by omega),Int.toNat_of_nonneg (by omega)]
    .cases h3
   .cases h2
  .cases h1
 .cases h
theorem a7S{g:Nat}(o:OkP x y g)(hb:aM G b=aj ds)(hk:∀d∈ds,kp G d)(bad:∃d∈ds,isP d x 1 y=ao)(h:∀G',Le G G'->EX A.cA G'):mV K A [lQ x y g,.ref b] G R EX:=by
 refine⟨rfl,?_⟩;show yP K A _ _ [aj (lQ x y g),aj (.ref b),aq,aq] G;exists yP;refine kW o ?_;exists a7A;rw[mZ hb];refine qH (λk ρ G'=>∃r2,ρ=[aj (lQ x y g),aj (.ref b),r2,aq]/\(∀d∈ds.take k,isP d x 1 y=ak)/\Le G G') ⟨_,rfl,(λd hd=>by cases hd),.refl _⟩ (λk ρ G' h=>?_) (λk d ρ G' hd z=>?_) λρ G' z=>?_
 .obtain⟨_,_,_,l⟩:=h;exact cM l hb
 .obtain⟨_,rfl,al,l⟩:=z;exists a1Y;have kd:=(hk d (lq hd)).le l;refine a3G o kd.1 kd.pr (λ_=>fO.here (h G' l)) λe=>?_;walk_at "wr";refine⟨_,rfl,λz hz=>?_,l⟩;rw[a2s,hd]at hz;rcases xu.mp hz with hz|hz
  .exact al z hz
  .obtain rfl:z=d:=by simpa using hz
   exact e
 .obtain⟨_,rfl,al,l⟩:=z;obtain⟨d,hd,e⟩:=bad;rw[a0t]at al;rw[al d hd]at e;cases e
def DS(G:Gp)(p:bx)(M:List (Int×Int))(G':Gp):Prop:=G' p=aj (setG M)/\∀q u,q≠p->G q=aj u->G' q=aj u
theorem DS.new(h:DS G p M G')(hq:G' q=aq):DS G p M (aL G' q o):=⟨fU h.1 hq,λr u n e=>fU (h.2 r u n e) hq⟩
theorem DS.put{N:List (Int×Int)}(h:DS G p M G'):DS G p N (aL G' p (setG N)):=⟨aH,λr u n e=>by rw[bC n];exact h.2 r u n e⟩
theorem DS.mk0:DS G p M (aL G p (setG M)):=⟨aH,λr u n e=>by rw[bC n];exact e⟩
theorem DS.leG(h:DS G p M G')(hp:G p=aq):Le G G':=λr u e=>h.2 r u (λz=>by subst z;rw[hp]at e;cases e) e
theorem DS.more(h:DS G p M G')(l:Le G' G2):DS G p M G2:=⟨l _ _ h.1,λr u n e=>l _ _ (h.2 r u n e)⟩
theorem asN{q r:Int×Int}(h:q.1=r.1):(yI q.2 (m6 q r) (lH q.2 (r.2+m6 q r) (m6 q r))).map (λd=>D.tup [.int q.1,d])=(tD q r).map eG:=by
 have n:lH q.2 (r.2+m6 q r) (m6 q r)=cnt q r+1:=by
  unfold L2.lH m6 cnt;by_cases c:q.2<r.2
  .rw[if_pos c,if_pos rfl];omega
  .rw[if_neg c,if_neg (by decide)];omega
 rw[n];unfold L2.yI tD as9;rw[if_pos h,List.range_succ_eq_map,qd,qd,qd,mj,mj,mj];congr 1;show D.tup [.int q.1,.int (q.2+((0:Nat):Int)*m6 q r)]=D.tup [.int q.1,.int q.2];simp
theorem amG{q r:Int×Int}(hq:-1000<=q.2/\q.2<=1000)(hr:-1000<=r.2/\r.2<=1000)(h:∀p,G p=aq->R (.ref p) (aL G p (.lst ((tD q r).map eG)))):gG K A [eG q,eG r] G R EX:=by
 have big:10000<dg:=by decide
 refine⟨rfl,?_⟩;have h':∀p,G p=aq->aY R (.ref p) (aL G p (.lst ((tD q r).map eG))):=λp hp=>aY.here (h p hp);clear h;show lY K A _ _ [aj (eG q),aj (eG r),aq] G;exists lY;by_cases c:q.1=r.1
 .rw[if_neg (by simp[c])];exists pB
  have go:∀k:Int,k=m6 q r->jJ K A (λ_=>fO EX) {nx:=λ_ G'=>aY R D.non G',rt:=aY R} [aj (eG q),aj (eG r),aj (.int k)] G:=by
   rintro _ rfl;have hk:m6 q r=1∨m6 q r=-1:=by unfold m6;split<;>simp
   have b:-2305843009213693952<=q.2/\q.2<2305843009213693952/\-2305843009213693952<=r.2+m6 q r/\r.2+m6 q r<2305843009213693952:=by omega
   have n:lH q.2 (r.2+m6 q r) (m6 q r)<=5000:=by
    unfold L2.lH;rcases hk with e|e<;>rw[e]<;>split<;>omega
   exists jJ,axY b hk;refine comp_map (λd=>D.tup [.int q.1,d]) (by show(yI _ _ _).length<_;unfold L2.yI;rw[jc,List.length_range];omega) trivial (λd hd G' l Q z=>?_) λp hp=>?_
   .walk_at "wr";exact z G' (.refl _)
   .rw[show(Src.yZ (yI q.2 (m6 q r) (lH q.2 (r.2+m6 q r) (m6 q r)))).items=yI q.2 (m6 q r) (lH q.2 (r.2+m6 q r) (m6 q r))from rfl,asN c];exact h' p hp
  by_cases d:q.2<r.2
  .rw[if_pos (by simpa using d)];exact go 1 (by unfold m6;rw[if_pos d])
  .rw[if_neg (by simpa using d)];exact go (-1) (by unfold m6;rw[if_neg d])
 .rw[if_pos (by simp[c])];walk_at "wr";intro p hp;have:=h' p hp;unfold tD at this;rw[if_neg c]at this;exact this
theorem ahQ{xs:List D}{lo hi:Option Int}(h:aM G p=aj xs):avC (.ref p) lo hi G R=∀q,G q=aq->R (.ref q) (aL G q (.lst (cutD xs lo hi))):=by
 unfold avC;simp only[h]
theorem ak9{α:Type}{xs:List α}:cutD xs (aj 1) aq=xs.tail:=by
 unfold L2.cutD;have e:=HT.aiG xs.length 0 1;rw[show((1:Nat):Int)=1 from rfl]at e;rw[e,HT.ad9];cases xs with
 |nil=>rfl
 |cons x r =>
  have:min 1 (x::r).length=1:=by simp
  rw[this];simp
theorem akA{xs ys:List (Int×Int)}:prs (xs.map eG) (ys.map eG)=(xs.zip ys).map λz=>D.tup [eG z.1,eG z.2]:=by
 unfold L2.prs;rw[List.zip_map,mj];rfl
theorem DS.ls{m:bx}(s:DS G m M G')(n:p≠m)(h:aM G p=aj xs):aM G' p=aj xs:=by
 unfold aM at h ⊢;cases e:G p with
 |none=>rw[e]at h;cases h
 |some u=>rw[e]at h;rw[s.2 p u n e];exact h
theorem aL5{m:bx}(h:aM G p=aj xs)(hm:G m=aq):p≠m:=λe=>by
 subst e;unfold aM at h;rw[hm]at h;cases h
theorem dO{qs:List (Int×Int)}{k:Nat}(h:qs[k]?=aj q):qs.getD k (0,0)=q:=by simp[a1b,h]
theorem a4V{qs:List (Int×Int)}(w:Walk x y qs)(hy:y<=99)(k:Nat):0<=(qs.getD k (0,0)).2/\(qs.getD k (0,0)).2<=100:=by
 cases e:qs[k]? with
 |none=>simp[a1b,e]
 |some q =>
  have:=w.inn q (lq e);rw[dO e];exact⟨this.2.2.1,by have:=this.2.2.2;omega⟩
theorem a0Y{qs:List (Int×Int)}(w:Walk x y qs)(hy:y<=99)(k:Nat):cnt (qs.getD k (0,0)) (qs.getD (k+1) (0,0))<=100:=by
 have h1:=a4V w hy k;have h2:=a4V w hy (k+1);unfold cnt;omega
theorem ahR{m:bx}{bs M:List (Int×Int)}(hw:G wr=aj (setG (bs.foldl v8 [])))(s:DS G0 m M G)(ml:M.length<900000)(h:∀G',DS G0 m (rG (λq=>decide (q∈bs)) M q) G'->(∀a u,a≠m->G a=aj u->G' a=aj u)->F.nx [r0,r1,r2,aj (.ref wr),aj (.ref m),r5,r6,aj (eG q)] G'):vR K A ex F [r0,r1,r2,aj (.ref wr),aj (.ref m),r5,r6,aj (eG q)] G:=by
 have big:10000<dg:=by decide
 have hm:=s.1;exists vR;refine ay4 hw ?_;walk_at "wr"
 have em:decide ((q.1,q.2)∈bs.foldl v8 [])=decide (q∈bs):=by
  congr 1;exact propext (by rw[af3];simp)
 rw[em];refine fP (λc=>?_) λc=>?_
 .walk_at "wr";refine ay5 hm (by omega) ?_;refine h _ ?_ λa u n e=>by rw[bC n];exact e
  unfold rG;rw[if_pos (by exact c)];exact s.put
 .refine h _ ?_ λa u n e=>e;unfold rG;rw[if_neg (by simpa using c)];exact s
theorem akB{g:Nat}{qs bs:List (Int×Int)}(o:OkP x y g)(hp:aM G p=aj (qs.map eG))(hb:aM G b=aj (bs.map eG))(w:Walk x y qs)(ql:qs.length<=1000)(bl:bs.length<=5000)(h:∀l G',Le G G'->G l=aq->G' l=aj (.lst ((wA (λq=>decide (q∈bs)) qs (qs.length - 1)).map eG))->R (.ref l) G'):lK K A [lQ x y g,.ref p,.ref b] G R EX:=by
 have big:10000<dg:=by decide
 refine⟨rfl,?_⟩;have h':∀l G',Le G G'->G l=aq->G' l=aj (.lst ((wA (λq=>decide (q∈bs)) qs (qs.length - 1)).map eG))->aY R (.ref l) G':=λl G' a b c=>aY.here (h l G' a b c);clear h;show a0M K A _ _ [aj (lQ x y g),aj (.ref p),aj (.ref b),aq,aq,aq,aq,aq] G;exists a0M;refine kW o ?_;exists aaV;rw[qG hb];refine comp_map (λd=>D.tup [d,.bl ak]) (by show(bs.map eG).length<_;rw[jc];omega) hb (λd hd G' l Q z=>?_) λc hc=>?_
 .walk_at "wr";exact z G' (.refl _)
 rw[show((Src.lst b (bs.map eG)).items.map λd=>D.tup [d,.bl ak])=bs.map λq=>D.tup [.tup [.int q.1,.int q.2],.bl ak] by show((bs.map eG).map _)=_;rw[mj];rfl];refine am0 bD λwr hwr=>?_;exists aaU;intro m hm;exists aaT;have l1:Le G (aL G c (.lst (bs.map λq=>D.tup [.tup [.int q.1,.int q.2],.bl ak]))):=.new hc;have l2:=l1.trans (Le.new (o:=setG (bs.foldl v8 [])) hwr);have l3:=l2.trans (Le.new (o:=.zJ []) hm);rw[ahQ (cM l3 hp)];intro q hq;rw[ak9,←List.map_tail,aaK (cM (l3.trans (.new hq)) hp) bD];generalize e4:aL (aL (aL (aL G c (.lst (bs.map λq=>D.tup [.tup [.int q.1,.int q.2],.bl ak]))) wr (setG (bs.foldl v8 []))) m (.zJ [])) q (.lst (qs.tail.map eG))=G4;have l4:Le G G4:=by rw[←e4];exact l3.trans (.new hq)
 have hm4:G4 m=aj (setG []):=by rw[←e4];exact fU aH hq
 have hw4:G4 wr=aj (setG (bs.foldl v8 [])):=by rw[←e4];exact fU (fU aH hm) hq
 have hp4:aM G4 p=aj (qs.map eG):=cM l4 hp;have hq4:aM G4 q=aj (qs.tail.map eG):=by rw[←e4];exact bD
 have np:p≠m:=aL5 (cM l2 hp) hm;have nq:q≠m:=λe=>by subst e;rw[aH]at hq;cases hq
 have nw:wr≠m:=λe=>by subst e;rw[aH]at hm;cases hm
 have il:(Src.zip p q (qs.map eG) (qs.tail.map eG)).items.length=qs.length - 1:=by
  show(prs (qs.map eG) (qs.tail.map eG)).length=_;rw[akA,jc,List.length_zip,List.length_tail];omega
 refine⟨λk ρ G'=>∃r5 r6 r7,ρ=[aj (lQ x y g),aj (.ref p),aj (.ref b),aj (.ref wr),aj (.ref m),r5,r6,r7]/\DS G4 m (wA (λq=>decide (q∈bs)) qs k) G',⟨_,_,_,rfl,hm4,λ_ _ _ e=>e⟩,λk ρ G' _ h=>?_,λk d ρ G' hd h=>?_,λρ G' h=>?_⟩
 .obtain⟨_,_,_,_,s⟩:=h;exact⟨s.ls np hp4,s.ls nq hq4⟩
 .obtain⟨_,_,_,rfl,s⟩:=h;rw[show(Src.zip p q (qs.map eG) (qs.tail.map eG)).items=prs (qs.map eG) (qs.tail.map eG)from rfl,akA,nu]at hd;obtain⟨z,hz,rfl⟩:=za.mp hd;obtain⟨z1,z2⟩:=List.getElem?_zip_eq_some.mp hz;rw[List.getElem?_tail]at z2;have i1:=a4V w o.y1 k;have i2:=a4V w o.y1 (k+1);have c1:=a0Y w o.y1 k;have kl:k<1000:=by have:=(gj.mp z1).1;omega
  have sl:=a0U (w:=λq=>decide (q∈bs)) (qs:=qs) (a0Y w o.y1) k
  have en:wA (λq=>decide (q∈bs)) qs (k+1)=(tD z.1 z.2).foldl (rG λq=>decide (q∈bs)) (wA (λq=>decide (q∈bs)) qs k):=by
   show amB _ _ _ _=_;rw[dO z1,dO z2];rfl
  rw[dO z1]at i1 c1;rw[dO z2]at i2 c1;have pl:=afR c1;rw[a6S rfl];exists a7C;refine amG (by omega) (by omega) λsg hsg=>?_;rw[mZ bD];have nsg:sg≠m:=λe=>by subst e;rw[s.1]at hsg;cases hsg
  refine qH (λj ρ G''=>∃r7,ρ=[aj (lQ x y g),aj (.ref p),aj (.ref b),aj (.ref wr),aj (.ref m),aj (eG z.1),aj (eG z.2),r7]/\DS G4 m (((tD z.1 z.2).take j).foldl (rG λq=>decide (q∈bs)) (wA (λq=>decide (q∈bs)) qs k)) G''/\aM G'' sg=aj ((tD z.1 z.2).map eG)) ⟨_,rfl,s.new hsg,bD⟩ (λj ρ G'' h=>h.choose_spec.2.2) (λj d ρ G'' hd h=>?_) λρ G'' h=>?_
  .obtain⟨_,rfl,s2,hl⟩:=h;rw[nu]at hd;obtain⟨t,ht,rfl⟩:=za.mp hd;walk_at "wr";have fl:=a7Q (b:=λq=>decide (q∈bs)) ((tD z.1 z.2).take j) (wA (λq=>decide (q∈bs)) qs k);have tl:((tD z.1 z.2).take j).length<=101:=by rw[wj];omega
   refine ahR (s2.2 wr _ nw hw4) s2 (by omega) λG5 s5 k5=>⟨_,rfl,?_,?_⟩
   .rw[a2s,ht];show DS G4 m (List.foldl _ _ (_++[t])) G5;rw[List.foldl_append];exact s5
   .unfold aM at hl ⊢;cases e:G'' sg with
    |none=>rw[e]at hl;cases hl
    |some u=>rw[e]at hl;rw[k5 sg u nsg e];exact hl
  .obtain⟨_,rfl,s2,hl⟩:=h;refine⟨_,_,_,rfl,?_⟩;rw[en];rw[jc,a0t]at s2;exact s2
 .obtain⟨_,_,_,rfl,s⟩:=h;rw[il]at s;exists aaS;have sl:=a0U (w:=λq=>decide (q∈bs)) (qs:=qs) (a0Y w o.y1) (qs.length - 1);have bg:900000<dg:=by decide
  refine alZ s.1 (by omega) λl hl=>?_
  have l5:Le G G':=λa u e=>s.2 a u (λz=>by
   have:=l2 a u e;rw[z,hm]at this;cases this) (l4 a u e)
  have gl:G l=aq:=by
   cases e:G l with
   |none=>rfl
   |some u=>rw[l5 l u e]at hl;cases hl
  exact h' l _ (l5.trans (.new hl)) gl aH
theorem afV{w:P2->Bool}{qs:List P2}(hw:w q=ak):∀{n k:Nat},k<n->q∈tD (qs.getD k (0,0)) (qs.getD (k+1) (0,0))->q∈wA w qs n
 |0,_,h,_=>by omega
 |n+1,k,h,m=>by
  show q∈amB w (wA w qs n) _ _;unfold amB;rw[afQ];by_cases e:k=n
  .subst e;exact .inr ⟨m,hw⟩
  .exact .inl (afV hw (by omega) m)
theorem cover{w:P2->Bool}{qs:List P2}(hw:w q=ak)(h:Cov qs q):q∈wA w qs (qs.length - 1):=by
 obtain⟨k,a,b,h1,h2,h3⟩:=h;have kl:=(gj.mp h2).1;refine afV hw (k:=k) (by omega) ?_;rw[dO h1,dO h2];exact h3
set_option tactic.hygienic true in
theorem asO:(a1P m n' d).lookup n=if n=n' then aj d else m.lookup n:=by
 unfold a1P;split
 ·rename_i h;revert h
  induction m with
  |nil=>intro h;cases h
  |cons p m ih =>
   intro h;obtain⟨a,v⟩:=p;rw[qd];by_cases e:a=n'
   .subst e;simp only[if_pos];rw[jo,jo];by_cases c:n=a
    .subst c;simp
    .rw[show(n==a)=ao from beq_eq_false_iff_ne.mpr c,if_neg c];show a2d n _=a2d n m;clear ih h
     induction m with
     |nil=>rfl
     |cons q m jh =>
      rw[qd];by_cases e2:q.1=a
      .rw[if_pos e2,jo,jo,show(n==q.1)=ao from beq_eq_false_iff_ne.mpr (by rw[e2];exact c)];exact jh
      .rw[if_neg e2,jo,jo];split<;>first|rfl|exact jh
   .simp only[if_neg e];rw[jo,jo];rw[jo,show(n'==a)=ao from beq_eq_false_iff_ne.mpr λz=>e z.symm]at h;by_cases c:n=a
    .subst c;rw[if_neg e];simp
    .rw[show(n==a)=ao from beq_eq_false_iff_ne.mpr c];exact ih h
 .rename_i h;rw[List.lookup_append,jo];by_cases c:n=n'
  .subst c;rw[if_pos rfl];cases e:m.lookup n with
   |none=>simp
   |some z=>rw[e]at h;exact absurd rfl h
  .rw[if_neg c,show(n==n')=ao from beq_eq_false_iff_ne.mpr c];simp
theorem akC:∀{kvs m:List (List Int×D)},(∀p∈kvs,∃i:Int,p.2=.int i)->((∃p∈kvs,p.1=n)∨∃i:Int,m.lookup n=aj (.int i))->∃i:Int,(foldM m kvs).lookup n=aj (.int i)
 |[],m,_,h=>h.elim (λ⟨_,z,_⟩=>by cases z) id
 |p::kvs,m,hi,h=>by
  refine akC (kvs:=kvs) (m:=a1P m p.1 p.2) (λq hq=>hi q (jw _ hq)) ?_;by_cases c:n=p.1
  .obtain⟨i,e⟩:=hi p (qu ..);exact .inr ⟨i,by rw[asO,if_pos c,e]⟩
  .rcases h with⟨q,hq,e⟩|⟨i,e⟩
   .rcases jm.mp hq with rfl|hq
    .exact absurd e.symm c
    .exact .inl ⟨q,hq,e⟩
   .exact .inr ⟨i,by rw[asO,if_neg c,e]⟩
noncomputable def tnK(M:List (Int×Int)):List (List Int×D):=M.zipIdx.map λz=>([z.1.1,z.1.2],D.int (z.2:Int))
theorem aFM{q:Int×Int}(h:q∈M):∃i:Int,(foldM [] (tnK M)).lookup [q.1,q.2]=aj (.int i):=by
 refine akC (λp hp=>?_) (.inl ?_)
 .obtain⟨z,_,rfl⟩:=jz.mp hp;exact⟨_,rfl⟩
 .obtain⟨i,hi,e⟩:=List.mem_iff_getElem.mp h;exact⟨_,jz.mpr ⟨(q,i),List.mem_zipIdx_iff_getElem?.mpr (by rw[gw hi,e]),rfl⟩,rfl⟩
noncomputable def tnF(m:List (List Int×D))(q:Int×Int):Int:=match m.lookup [q.1,q.2]with
 |some (.int i)=>i
 |_=>0
theorem aFN{q:Int×Int}(h:∃i:Int,m.lookup [q.1,q.2]=aj (.int i)):m.lookup [q.1,q.2]=aj (.int (tnF m q)):=by
 obtain⟨i,e⟩:=h;unfold tnF;rw[e]
noncomputable def rwD(q:Int×Int):D:=.tup [eG q,.int 0,.int 1]
theorem aFO{t:bx}{q:Int×Int}(ht:G t=aj (.zJ m))(hm:∃i:Int,m.lookup [q.1,q.2]=aj (.int i))(h:R (.tup [.int (tnF m q),.int 0]) G):iB K A [.ref t,rwD q] G R EX:=by
 refine⟨rfl,?_⟩;show mW K A _ [aj (.ref t),aj (rwD q)] G R;unfold rwD eG;exists mW;refine aFD (n:=[q.1,q.2]) ht (aFN hm) ?_;walk_at "wr";exact h
set_option tactic.hygienic true in
theorem asQ{g:Nat}{bs:List (Int×Int)}(o:OkP x y g)(hb:aM G b=aj (bs.map rwD))(hB:∀q∈bs,InB x y q)(bl:bs.length<64)(hT:G A.cI=aj (.tab aZ.qual aZ.pos))(h:∀d G',Le G G'->R d G'):jW K A [lQ x y g,.ref b] G R EX:=by
 have big:10000<dg:=by decide
 refine⟨rfl,?_⟩;have h':∀d G',Le G G'->aY R d G':=λd G' l=>aY.here (h d G' l);clear h;show lM K A _ _ [aj (lQ x y g),aj (.ref b),aq,aq,aq] G;exists lM,pC;refine kW o ?_;exists sX;rw[qG hb];refine comp_map (λd=>match d with|.tup (a::_)=>a|_=>.non) (by show(bs.map rwD).length<_;rw[jc];omega) hb (λd hd G' l Q z=>?_) λc hc=>?_
 .obtain⟨q,hq,rfl⟩:=jz.mp hd;unfold rwD eG;walk_at "wr";exact z G' (.refl _)
 rw[show((Src.lst b (bs.map rwD)).items.map λd=>match d with|.tup (a::_)=>a|_=>.non)=bs.map eG by show((bs.map rwD).map _)=_;rw[mj];rfl];have l1:Le G (aL G c (.lst (bs.map eG))):=.new hc;exists sW;refine w_walk (bs:=bs) o bD hB (by omega) λs qs G2 l2 hs W wl cv=>?_;exists a0P;refine akB (qs:=qs) (bs:=bs) o (bK hs) (cM l2 bD) W wl (by omega) λp G3 l3 fp hp=>?_;walk_at "wr";have sl:=a0U (w:=λq=>decide (q∈bs)) (qs:=qs) (a0Y W o.y1) (qs.length - 1);replace cv:∀q∈bs,q∈wA (λq=>decide (q∈bs)) qs (qs.length - 1):=λq hq=>cover (decide_eq_true hq) (cv q hq);generalize wA (λq=>decide (q∈bs)) qs (qs.length - 1)=M at hp sl cv;have ml:M.length<900000:=by omega
 have bi2:1000000<dg:=by decide
 refine arQ (bK hp) ?_
 have it:∀d∈(Src.enl p (M.map eG)).items,∃(i:Nat)(q:Int×Int),d=.tup [.int i,eG q]:=λd hd=>by
  obtain⟨z,hz,rfl⟩:=jz.mp (show d∈(M.map eG).zipIdx.map _ from hd);obtain⟨d,i⟩:=z;obtain⟨q,_,rfl⟩:=jz.mp (lq (List.mem_zipIdx_iff_getElem?.mp hz));exact⟨i,q,rfl⟩
 refine a06 (λd=>match d with|.tup xs=>xs|_=>[]) (λ_=>ak) (λd=>match d with|.tup [i,q]=>.tup [q,i]|_=>.non) (by show(enm (M.map eG)).length<_;rw[zZ,jc];omega) (bK hp) (λd hd=>?_) (λd hd G' l Q z=>?_) (λd hd _ G' l Q z=>?_) λc2 hc2=>?_
 .obtain⟨i,q,rfl⟩:=it d hd;rfl
 .obtain⟨i,q,rfl⟩:=it d hd;walk_at "wr";exact z G' (.refl _)
 .obtain⟨i,q,rfl⟩:=it d hd;walk_at "wr";exact z G' (.refl _)
 have el:(((Src.enl p (M.map eG)).items.filter λ_=>ak).map λd=>match d with|.tup [i,q]=>.tup [q,i]|_=>.non)=(tnK M).map aaA:=by
  rw[a2p.mpr λ_ _=>rfl];show((M.map eG).zipIdx.map _).map _=_;unfold tnK;rw[List.zipIdx_map,mj,mj,mj];rfl
 rw[el];refine⟨tnK M,bD,λz hz=>?_,λt ht=>?_⟩
 .obtain⟨w,_,rfl⟩:=jz.mp hz;exact .inl ⟨_,rfl⟩
 have l4:Le G (aL (aL G3 c2 (.lst ((tnK M).map aaA))) t (.zJ (foldM [] (tnK M)))):=(l1.trans (l2.trans l3)).trans ((Le.new hc2).trans (.new ht));have gt:aL (aL G3 c2 (.lst ((tnK M).map aaA))) t (.zJ (foldM [] (tnK M))) t=aj (.zJ (foldM [] (tnK M))):=aH;generalize aL (aL G3 c2 (.lst ((tnK M).map aaA))) t (.zJ (foldM [] (tnK M)))=G4 at l4 gt;have lk:∀q∈bs,∃i:Int,(foldM [] (tnK M)).lookup [q.1,q.2]=aj (.int i):=λq hq=>aFM (cv q hq);generalize foldM [] (tnK M)=m at gt lk;walk_at "wr";refine⟨b,bs.map rwD,.ref t,rfl,cM l4 hb,by rw[jc];omega,rfl,l4 _ _ hT,?_⟩;refine ajS (λd=>match d with|.tup (.tup [.int a,.int b]::_)=>.tup [.int (tnF m (a,b)),.int 0]|_=>.non) _ _ _ (λd hd G' l' R' k=>?_) λG5 l5=>?_
 .obtain⟨q,hq,rfl⟩:=jz.mp hd;exact aFO (l' _ _ gt) (lk q hq) (k G' (.refl _))
 refine⟨bs.map λq=>[tnF m q,0],λi=>tnF m (bs.getD i (0,0)),?_,λr hr=>?_,λi j u v hu hv=>?_,λq _ _ r hr=>?_⟩
 .rw[List.nil_append,mj,mj];rfl
 .obtain⟨q,_,rfl⟩:=jz.mp hr;exact List.cons_ne_nil _ _
 .rw[nu]at hu hv;obtain⟨q1,e1,rfl⟩:=za.mp hu;obtain⟨q2,e2,rfl⟩:=za.mp hv;show _=decide (tnF m (bs.getD i (0,0))<tnF m (bs.getD j (0,0)));rw[dO e1,dO e2,HT.rM,HT.rM,if_pos rfl,HT.xK];split
  ·rename_i e;rw[e];simp
  .rfl
 .walk_at "wr";exact h' _ _ (l4.trans (l5.trans (.new hr)))
theorem acM{g:Nat}{ds:List D}(o:OkP x y g)(hb:aM G b=aj (ds.map λd=>.tup [d,.int 0,.int 1]))(hk:∀d∈ds,kp G d)(bad:∃d∈ds,isP d x 1 y=ao)(dl:ds.length<64)(h:∀G',Le G G'->EX A.cA G'):jW K A [lQ x y g,.ref b] G R EX:=by
 have big:10000<dg:=by decide
 refine⟨rfl,?_⟩;show lM K A _ _ [aj (lQ x y g),aj (.ref b),aq,aq,aq] G;exists lM,pC;refine kW o ?_;exists sX;rw[qG hb];refine comp_map (λd=>match d with|.tup (a::_)=>a|_=>.non) (by show(ds.map _).length<_;rw[jc];omega) hb (λd hd G' l Q z=>?_) λc hc=>?_
 .obtain⟨q,hq,rfl⟩:=jz.mp hd;walk_at "wr";exact z G' (.refl _)
 rw[show((Src.lst b (ds.map λd=>.tup [d,.int 0,.int 1])).items.map λd=>match d with|.tup (a::_)=>a|_=>.non)=ds by show((ds.map _).map _)=_;rw[mj];exact List.map_id _];have l1:Le G (aL G c (.lst ds)):=.new hc;exists sW;exact a7S o bD (λd hd=>(hk d hd).le l1) bad λG' l=>fO.here (h G' (l1.trans l))
section
variable{d:D}(hd:kp G d)(no:jO d=ao)(h:EX A.c7 G)
include hd no h
variable{b:D}
theorem amI:mV K A [d,b] G R EX:=by
 refine⟨rfl,?_⟩;show yP K A _ _ [aj d,aj b,aq,aq] G;exists yP;exact lO hd.1 hd.pl (λ_=>fO.here h) λe=>by rw[no]at e;cases e
theorem afW:jW K A [d,b] G R EX:=by
 refine⟨rfl,?_⟩;show lM K A _ _ [aj d,aj b,aq,aq,aq] G;exists lM,pC;exact lO hd.1 hd.pl (λ_=>fO.here h) λe=>by rw[no]at e;cases e
theorem afX:n6 K A [d,b] G R EX:=by
 refine⟨rfl,?_⟩;show vQ K A _ _ [aj d,aj b] G;exists vQ;exact lO hd.1 hd.pl (λ_=>fO.here h) λe=>by rw[no]at e;cases e
theorem ahS{c:D}:lK K A [d,b,c] G R EX:=by
 refine⟨rfl,?_⟩;show a0M K A _ _ [aj d,aj b,aj c,aq,aq,aq,aq,aq] G;exists a0M;exact lO hd.1 hd.pl (λ_=>fO.here h) λe=>by rw[no]at e;cases e
end
theorem amJ{g:Nat}(o:OkP x y g)(hs:aM G p=aj [.tup [.int 0,.int 0]])(h:∀d G',Le G G'->R d G'):n6 K A [lQ x y g,.ref p] G R EX:=by
 have big:10000<dg:=by decide
 refine⟨rfl,?_⟩;have h':∀d G',Le G G'->aY R d G':=λd G' l=>aY.here (h d G' l);show vQ K A _ _ [aj (lQ x y g),aj (.ref p)] G;exists vQ;refine kW o ?_;exists a7B;rw[ahQ hs];intro q hq;rw[ak9,aaK (cM (.new hq) hs) bD];have ie:(Src.zip p q [.tup [.int 0,.int 0]] ([D.tup [.int 0,.int 0]]:List D).tail).items=[]:=rfl;refine a06 (λ_=>[]) (λ_=>ak) (λd=>d) (by rw[ie];show 0<dg;omega) ⟨cM (.new hq) hs,bD⟩ (λd hd=>by rw[ie]at hd;cases hd) (λd hd G' l Q z=>by rw[ie]at hd;cases hd) (λd hd _ G' l Q z=>by rw[ie]at hd;cases hd) λc hc=>?_;rw[ie];show adX [.ref c] (aL (aL G q (.lst [])) c (.lst (([]:List Int).map D.int))) _;rw[aKP bD];exact h' _ _ ((Le.new hq).trans (.new hc))
theorem asR{bp bb:Bool}(he:G z=aj (.exn C))(ec:ExC K C)(kv:iu K (.ref C) (.type "ValueError")=aj ak)(k1:iu K (.ref C) (.ref A.oY)=aj ao)(k2:iu K (.ref C) (.ref A.fV)=aj ao)(k3:iu K (.ref C) (.ref A.qI)=aj ao)(k4:iu K (.ref C) (.ref A.wZ)=aj ao)(k5:iu K (.ref C) (.ref A.c7)=aj bp)(k6:iu K (.ref C) (.ref A.cA)=aj bb)(hne:(bp==bb)=ao)
  (h:F.rt (.tup [.str "refused",.int (if bb then 1 else 0)]) G):aD K [.ref z,.ref A.oY] G λx G1=>onB x λk=>if k=ak then F.rt (.tup [.str "more",.int 0]) G1 else aD K [.ref z,.ref A.fV] G1 λx G1=>onB x λk=>if k=ak then F.rt (.tup [.str "more",.int 0]) G1 else jL K A NoX F [r0,r1,r2,aj (.ref z)] G1:=by
 refine lA he ec k1 ?_;walk_at "wr";refine lA he ec k2 ?_;exists jL;refine lA he ec k3 ?_;walk_at "wr";refine lA he ec k4 ?_;exists vX;refine axN he ec kv ?_;walk_at "wr";refine lA he ec k5 ?_;walk_at "wr";refine lA he ec k6 ?_;walk_at "wr";rw[hne];exists vW;refine lA he ec k6 ?_;walk_at "wr";exact h
noncomputable def plX(d:D):Int×Int:=match d with
 |.tup (.int x::.int y::_)=>(x,y)
 |_=>(0,0)
noncomputable def allB(d:D)(ds:List D):Bool:=ds.all λe=>isP e (plX d).1 1 (plX d).2
noncomputable def a3U(w:Int)(d:D)(ds:List D):Option Bool:=if jO d=ao then aj ao else if w<2/\allB d ds=ao then aj ak else aq
noncomputable def ahT:Option Bool->D
 |none=>.tup [.str "taken",.int 0]
 |some ao=>.tup [.str "refused",.int 0]
 |some ak=>.tup [.str "refused",.int 1]
structure afY(A:bF)(G:Gp)(out:Option Bool)(N:fL)(X:aX):Prop where
 t:out=aq->∀x G1,Le G G1->N x G1
 p:out=aj ao->∀G1,Le G G1->X A.c7 G1
 b:out=aj ak->∀G1,Le G G1->X A.cA G1
theorem afY.le{out:Option Bool}{N:fL}(h:afY A G out N X)(l:Le G G'):afY A G' out N X:=⟨λe x G1 k=>h.t e x G1 (l.trans k),λe G1 k=>h.p e G1 (l.trans k),λe G1 k=>h.b e G1 (l.trans k)⟩
theorem akD(h:∀e∈ds,isP e x 1 y=ak):∃bs:List (Int×Int),ds=bs.map eG/\∀q∈bs,InB x y q:=by
 induction ds with
 |nil=>exact⟨[],rfl,λq hq=>by cases hq⟩
 |cons e ds ih =>
  obtain⟨bs,e1,hB⟩:=ih λz hz=>h z (jw _ hz);obtain⟨i,j,rfl,h1,h2,h3,h4⟩:=aFH (h e (qu ..));refine⟨(i,j)::bs,by rw[qd,←e1],λq hq=>?_⟩;rcases jm.mp hq with rfl|hq
  .exact⟨h1,by show i<_;omega,h3,h4⟩
  .exact hB q hq
theorem a7T{w:Int}(e:jO d=ao):a3U w d ds=aj ao:=if_pos e
theorem acN{w:Int}(e:jO d=ak)(hw:w<2)(c:allB d ds=ao):a3U w d ds=aj ak:=by
 unfold a3U;rw[if_neg (by rw[e];decide),if_pos ⟨hw,c⟩]
theorem yU{w:Int}(e:jO d=ak)(c:¬ (w<2/\allB d ds=ao)):a3U w d ds=aq:=by
 unfold a3U;rw[if_neg (by rw[e];decide),if_neg c]
theorem asS{g:Nat}(c:allB (lQ x y g) ds=ao):∃d∈ds,isP d x 1 y=ao:=by
 obtain⟨d,h1,h2⟩:=List.all_eq_false.mp c;exact⟨d,h1,by simpa[plX,lQ]using h2⟩
section
variable{ds:List D}{w:Int}(hd:kp G d)(E:afY A G (a3U w d ds) R EX)
include hd E
theorem aFP(hw:w<2)(hb:aM G b=aj ds)(hk:∀e∈ds,kp G e)(dl:ds.length<64):mV K A [d,.ref b] G R EX:=by
 cases e:jO d with
 |false=>exact amI hd e (E.p (a7T e) G (.refl _))
 |true =>
  obtain⟨x,y,g,rfl,o⟩:=a0X e;cases c:allB (lQ x y g) ds with
  |false=>exact a7S o hb hk (asS c) λG' l=>E.b (acN e hw c) G' l
  |true =>
   obtain⟨bs,rfl,hB⟩:=akD (x:=x) (y:=y) (jq.mp c);rw[jc]at dl;exact w_walk o hb hB (by omega) λs _ G' l _ _ _ _=>E.t (yU e λz=>by rw[c]at z;cases z.2) _ G' l
theorem asT(hw:w<2)(hb:aM G b=aj (ds.map λd=>.tup [d,.int 0,.int 1]))(hk:∀e∈ds,kp G e)(dl:ds.length<64)(hT:G A.cI=aj (.tab aZ.qual aZ.pos)):jW K A [d,.ref b] G R EX:=by
 cases e:jO d with
 |false=>exact afW hd e (E.p (a7T e) G (.refl _))
 |true =>
  obtain⟨x,y,g,rfl,o⟩:=a0X e;cases c:allB (lQ x y g) ds with
  |false=>exact acM o hb hk (asS c) dl λG' l=>E.b (acN e hw c) G' l
  |true =>
   obtain⟨bs,rfl,hB⟩:=akD (x:=x) (y:=y) (jq.mp c);rw[jc]at dl;rw[mj]at hb;exact asQ o hb hB dl hT λd G' l=>E.t (yU e λz=>by rw[c]at z;cases z.2) _ G' l
theorem asU(hw:¬ w<2)(hb:aM G b=aj [.tup [.int 0,.int 0]]):n6 K A [d,.ref b] G R EX:=by
 cases e:jO d with
 |false=>exact afX hd e (E.p (a7T e) G (.refl _))
 |true =>
  obtain⟨x,y,g,rfl,o⟩:=a0X e;exact amJ o hb λd G' l=>E.t (yU e λz=>hw z.1) _ G' l
theorem ayR(hw:¬ w<2)(hb:aM G b=aj [.tup [.int 0,.int 0]])(hc:aM G c=aj []):lK K A [d,.ref b,.ref c] G R EX:=by
 cases e:jO d with
 |false=>exact ahS hd e (E.p (a7T e) G (.refl _))
 |true =>
  obtain⟨x,y,g,rfl,o⟩:=a0X e;have o0:=o.x0;exact akB (qs:=[(0,0)]) (bs:=[]) o hb hc ⟨λq hq=>by rw[su.mp hq];exact⟨by decide,by show(0:Int)<_;omega,by decide,by show(0:Int)<=_;omega⟩,λk q r _ h=>by cases k<;>cases h⟩ (by decide) (by decide) λl G' k _ _=>E.t (yU e λz=>hw z.1) _ G' k
end
theorem asV(T:Txt K mg A){w:Int}{ds:List D}(hw:0<=w/\w<4)(hb:aM G b=aj ds)(hk:∀e∈ds,kp G e)(dl:ds.length<64)(hd:kp G d)(hT:G A.cI=aj (.tab aZ.qual aZ.pos))(h:∀G',Le G G'->R (ahT (a3U w d ds)) G'):jM K A [.int w,d,.ref b] G R EX:=by
 have big:10000<dg:=by decide
 refine⟨rfl,?_⟩;have h':∀G',Le G G'->aY R (ahT (a3U w d ds)) G':=λG' l=>aY.here (h G' l);clear h;show vY K A _ _ [aj (.int w),aj d,aj (.ref b),aq] G;exists vY
 have E:afY A G (a3U w d ds) (λ_ G1=>fD K A (λ_=>fO EX) {nx:=λ_ G'=>aY R D.non G',rt:=aY R} [aj (.int w),aj d,aj (.ref b),aq] G1) (λC' G1=>uf K (.ref C') (.ref A.gC)=aj ak/\∀z:bx,G1 z=aq->aD K [.ref z,.ref A.oY] (aL G1 z (.exn C')) λx G1=>onB x λk=>if k=ak then aY R (.tup [.str "more",.int 0]) G1 else aD K [.ref z,.ref A.fV] G1 λx G1=>onB x λk=>if k=ak then aY R (.tup [.str "more",.int 0]) G1 else jL K A NoX {nx:=λρ2 G2=>fD K A (λ_=>fO EX) {nx:=λ_ G'=>aY R D.non G',rt:=aY R} (jQ ρ2 3) G2,rt:=aY R} [aj (.int w),aj d,aj (.ref b),aj (.ref z)] G1):=by
  refine⟨λe x G1 l=>?_,λe G1 l=>⟨T.cR,λz hz=>?_⟩,λe G1 l=>⟨T.cX,λz hz=>?_⟩⟩
  .rw[e]at h';exists fD;exact h' G1 l
  .rw[e]at h';exact asR (F:={nx:=λρ2 G2=>fD K A (λ_=>fO EX) {nx:=λ_ G'=>aY R D.non G',rt:=aY R} (jQ ρ2 3) G2,rt:=aY R}) aH T.arY T.rE T.fY T.dG T.fB T.fZ T.fC T.fX rfl (h' _ (l.trans (.new hz)))
  .rw[e]at h';exact asR (F:={nx:=λρ2 G2=>fD K A (λ_=>fO EX) {nx:=λ_ G'=>aY R D.non G',rt:=aY R} (jQ ρ2 3) G2,rt:=aY R}) aH T.ayF T.w5 T.iG T.eF T.gA T.iH T.gB T.iD rfl (h' _ (l.trans (.new hz)))
 refine fP (λe0=>?_) λe0=>?_
 .have e0:w=0:=by simpa using e0
  exact aFP hd E (by omega) hb hk dl
 refine fP (λe1=>?_) λe1=>?_
 .have e1:w=1:=by simpa using e1
  rw[qG hb];refine comp_map (λd=>.tup [d,.int 0,.int 1]) (by show ds.length<_;omega) hb (λd hd G' l Q z=>?_) λc hc=>?_
  .walk_at "wr";exact z G' (.refl _)
  have l1:Le G (aL G c (.lst (ds.map λd=>.tup [d,.int 0,.int 1]))):=.new hc;exact asT (hd.le l1) (E.le l1) (by omega) bD (λe he=>(hk e he).le l1) dl (l1 _ _ hT)
 have e0:¬ w=0:=by simpa using e0
 have e1:¬ w=1:=by simpa using e1
 refine fP (λe2=>?_) λe2=>?_
 .intro p hp;have l1:Le G (aL G p (.lst [.tup [.int 0,.int 0]])):=.new hp;exact asU (hd.le l1) (E.le l1) (by omega) bD
 .intro p hp q hq;have l1:Le G (aL G p (.lst [.tup [.int 0,.int 0]])):=.new hp;have l2:=l1.trans (Le.new (o:=.lst []) hq);exact ayR (hd.le l2) (E.le l2) (by omega) (cM (.new hq) bD) bD
theorem a2C(h:aM G q=aj ds):rY [.ref q] G R=R (.tup ds) G:=by
 unfold L2.rY;simp only[h]
theorem aFQ{α:Type}{xs:List α}{k:Nat}(h:k<=xs.length):cutD xs aq (aj (k:Int))=xs.take k:=by
 unfold L2.cutD;rw[HT.aiG,HT.ad9,a1s h,List.drop_zero,Nat.sub_zero]
theorem asW{n:Nat}(h:aV n d=ak):kn G d:=by
 cases d<;>first|rfl|(cases n<;>cases h)
theorem a2D{c lo hi:Int}(h:∀d G',Le G G'->kn G' d->aV 17 d=ak->R d G'):cO K A [.int c,.int lo,.int hi] G R EX:=by
 refine⟨rfl,?_⟩;have h':∀d G',Le G G'->kn G' d->aV 17 d=ak->aY R d G':=λd G' a b e=>aY.here (h d G' a b e);clear h;show o7 K A _ _ [aj (.int c),aj (.int lo),aj (.int hi),aq] G;exists o7,qU;intro p hp;refine acC bD (by omega) (by show c%8<8;omega) ?_;have mk:∀(o:GO) d,kn G d->aV 17 d=ak->aY R d (aL G p o):=λo d a b=>h' d _ (.new hp) (ajP (.new hp) a) b;refine all_cons (mk _ _ rfl rfl) (all_cons (mk _ _ rfl rfl) (all_cons (mk _ _ rfl rfl) (all_cons (mk _ _ rfl rfl) (all_cons (mk _ _ rfl rfl) (all_cons (mk _ _ rfl rfl) (all_cons (mk _ _ rfl rfl) (all_cons (mk _ _ rfl rfl) all_nil)))))))
def TB(G:Gp)(d:D):Prop:=kp G d/\(aV 18 d=ak∨∃p xs,d=.ref p/\aM G p=aj xs/\xs.all (aV 17)=ak)
theorem TB.le(h:TB G d)(l:Le G G'):TB G' d:=⟨h.1.le l,h.2.imp id λ⟨p,xs,e,a,b⟩=>⟨p,xs,e,cM l a,b⟩⟩
theorem TB.upd(h:TB G d)(n:∀p,d=.ref p->p≠b):TB (aL G b o) d:=by
 rcases h.2 with s|⟨p,xs,rfl,a,c⟩
 .refine⟨⟨asW s,λxs e x m=>?_⟩,.inl s⟩;subst e;exact asW (n:=17) (jq.mp (show xs.all (aV 17)=ak from s) x m)
 .have np:=n p rfl;refine⟨rF ?_ (by simp),.inr ⟨p,xs,rfl,?_,c⟩⟩
  .have:=h.1.1;unfold kn tyD at this ⊢;simp only[bC np];exact this
  .unfold aM at a ⊢;rw[bC np];exact a
theorem TB.ok(h:TB G d):ok2 G d d=ak/\eq2 G d d=ak:=by
 rcases h.2 with s|⟨p,xs,rfl,a,b⟩
 .have e:ok2 G d d=(aV 18 d&&aV 18 d):=by
   unfold ok2;split
   ·cases s
   .rfl
  have e2:eq2 G d d=eqP d d:=by
   unfold eq2;split
   ·cases s
   .rfl
  rw[e,e2,s];exact⟨rfl,a5S s⟩
 .unfold ok2 eq2;simp only[a];exact⟨by rw[b];rfl,wI (n:=17) λx m=>jq.mp b x m⟩
theorem TB.all(h:∀d∈ds,TB G d):a8T G ds ds=ak/\xF G ds ds=ak:=by
 induction ds with
 |nil=>exact⟨rfl,rfl⟩
 |cons d ds ih =>
  obtain⟨a,b⟩:=ih λz hz=>h z (jw _ hz);obtain⟨c,e⟩:=(h d (qu ..)).ok;exact⟨by rw[a8T,c,a];rfl,by rw[xF,e,b];rfl⟩
theorem ayS{c x y:Int}(h:∀d G',Le G G'->TB G' d->(∀p,d=.ref p->G p=aq)->R d G'):lE K A [.int c,.int x,.int y] G R EX:=by
 refine⟨rfl,?_⟩;have h':∀d G',Le G G'->TB G' d->(∀p,d=.ref p->G p=aq)->aY R d G':=λd G' a b c=>aY.here (h d G' a b c);clear h;show sY K A _ _ [aj (.int c),aj (.int x),aj (.int y)] G;exists sY;refine fP (λ_=>?_) λ_=>?_
 .refine a2D λd G' l k s=>?_;walk_at "wr";exact h' _ _ l ⟨lZ (all_cons k (all_cons rfl all_nil)),.inl (by show([d,.int 1].all (aV 17))=ak;rw[wk,s];rfl)⟩ (λp z=>nomatch z)
 exists vV;refine fP (λ_=>?_) λ_=>?_
 .refine a2D λd G' l k s=>?_;walk_at "wr";exact h' _ _ l ⟨lZ (all_cons rfl (all_cons k all_nil)),.inl (by show([.int 0,d].all (aV 17))=ak;rw[wk,wk,s];rfl)⟩ (λp z=>nomatch z)
 exists vU;intro p hp q hq;have l1:=Le.new (o:=.lst [.int 0,.int 1]) hp;refine acC bD (by omega) (by show c / 4%8<8;omega) ?_;have mk:∀(o:GO) d,TB (aL G p (.lst [.int 0,.int 1])) d->(∀p,d=.ref p->G p=aq)->aY R d (aL (aL G p (.lst [.int 0,.int 1])) q o):=λo d a b=>h' d _ (l1.trans (.new hq)) (a.le (.new hq)) b;have no:∀{xs:List D}(p:bx),D.tup xs=.ref p->G p=aq:=λp z=>nomatch z;refine all_cons (mk _ _ ⟨lZ (all_cons rfl all_nil),.inl rfl⟩ no) ?_;refine all_cons (mk _ _ ⟨lZ (all_cons rfl (all_cons rfl (all_cons rfl all_nil))),.inl rfl⟩ no) ?_;refine all_cons (mk _ _ ⟨rF (ar9 aH) (by simp),.inr ⟨p,_,rfl,bD,rfl⟩⟩ λz e=>by cases e;exact hp) ?_;refine all_cons (mk _ _ ⟨rF rfl (by simp),.inl rfl⟩ (λp z=>nomatch z)) ?_;refine all_cons (mk _ _ ⟨rF rfl (by simp),.inl rfl⟩ (λp z=>nomatch z)) ?_;refine all_cons (mk _ _ ⟨rF rfl (by simp),.inl rfl⟩ (λp z=>nomatch z)) ?_;refine all_cons (mk _ _ ⟨lZ (all_cons rfl (all_cons rfl all_nil)),.inl rfl⟩ no) ?_;exact all_cons (mk _ _ ⟨lZ (all_cons rfl (all_cons rfl all_nil)),.inl rfl⟩ no) all_nil
theorem acO{b:D}{w:Int}(hp:G p=aj (.lst [a,b,c]))(ka:kn G a)(kb:kn G b)(kc:kn G c)(h:∀d G',Le G G'->kp G' d->F.rt d G'):jX K A ex F [r0,r1,aj (.ref p),aj (.int w),r4] G:=by
 have big:10000<dg:=by decide
 exists jX;refine fP (λ_=>?_) λ_=>?_
 .rw[ahQ (bK hp)];intro q hq;have l1:=Le.new (o:=.lst (cutD [a,b,c] aq (aj 2))) hq;rw[a2C bD];walk_at "wr";rw[a2C (bK (l1 _ _ hp))];walk_at "wr";rw[show cutD [a,b,c] aq (aj 2)=[a,b]from aFQ (k:=2) (by simp)]at *;refine⟨by show 3+1<=dg;omega,?_⟩;intro r hr;have l2:=l1.trans (Le.new (o:=.lst [.ref p,.tup [a,b],.tup ([a,b,c]++[.int 1]),.non,.int 7,.str "plan"]) hr);refine acC bD (by omega) (by show w / 12%6<6;omega) ?_;have mk:∀d,kp G d->F.rt d _:=λd k=>h d _ l2 (k.le l2);refine all_cons (mk _ (rF (ar9 hp) (by simp))) ?_;refine all_cons (mk _ (lZ (all_cons ka (all_cons kb all_nil)))) ?_;refine all_cons (mk _ (lZ (all_cons ka (all_cons kb (all_cons kc (all_cons rfl all_nil)))))) ?_;exact all_cons (mk _ (rF rfl (by simp))) (all_cons (mk _ (rF rfl (by simp))) (all_cons (mk _ (rF rfl (by simp))) all_nil))
 .exists qW;rw[a2C (bK hp)];exact h _ _ (.refl _) (lZ (all_cons ka (all_cons kb (all_cons kc all_nil))))
theorem amK(hG:G a=aj (.rol (ns.map D.int)))(h:∀d G',Le G G'->kp G' d->R d G'):iT K A [.ref a] G R EX:=by
 refine⟨rfl,?_⟩;have h':∀d G',Le G G'->kp G' d->aY R d G':=λd G' a b=>aY.here (h d G' a b);clear h;show o8 K A _ _ [aj (.ref a),aq,aq,aq,aq] G;exists o8;refine w6 (k:=0) hG (by omega) ?_;exists qZ;intro p hp;have l1:=Le.new (o:=.lst [.int (1+cellAt ns 0%5),.int (1+cellAt ns 0 / 5%7),.int (1+cellAt ns 0 / 35%20)]) hp;exists qY;refine w6 (k:=1) (l1 _ _ hG) (by omega) ?_;exists qX;refine fP (λ_=>?_) λ_=>?_
 .exists mD;exists aF5;intro q hq;have l2:=l1.trans (Le.new (o:=.lst [.int 26,.int 99,.int 20]) hq);have gp:=(Le.new (o:=.lst [.int 26,.int 99,.int 20]) hq) _ _ (aH (G:=G) (a:=p) (o:=.lst [.int (1+cellAt ns 0%5),.int (1+cellAt ns 0 / 5%7),.int (1+cellAt ns 0 / 35%20)]));refine acC bD (by omega) (by show cellAt ns 1 / 3%3<3;omega) λd hd=>?_
  obtain⟨v,rfl⟩:∃v,d=.int v:=by
   simp only[jm,qj,or_false]at hd;rcases hd with rfl|rfl|rfl<;>exact⟨_,rfl⟩
  walk_at "wr";refine a2D λe G' l k s=>?_;walk_at "wr";obtain⟨j,ej⟩:∃j:Nat,cellAt ns 1 / 3%3=(j:Int):=⟨(cellAt ns 1 / 3%3).toNat,by omega⟩;have jl:j<3:=by omega
  rw[ej,arF (l _ _ gp) (by omega) (by show(j:Int)<3;omega),ux]
  have lf:∀o:GO,Le G (aL G' p o):=λo z u e=>by
   rw[bC (a1X e hp)];exact l _ _ (l2 _ _ e)
  have ke:∀G,kn G e:=λG=>asW s;rcases(show j=0∨j=1∨j=2 by omega)with rfl|rfl|rfl
  .exact acO (a:=e) (b:=.int (1+cellAt ns 0 / 5%7)) (c:=.int (1+cellAt ns 0 / 35%20)) aH (ke _) rfl rfl λd G' l k=>h' d G' ((lf _).trans l) k
  .exact acO (a:=.int (1+cellAt ns 0%5)) (b:=e) (c:=.int (1+cellAt ns 0 / 35%20)) aH rfl (ke _) rfl λd G' l k=>h' d G' ((lf _).trans l) k
  .exact acO (a:=.int (1+cellAt ns 0%5)) (b:=.int (1+cellAt ns 0 / 5%7)) (c:=e) aH rfl rfl (ke _) λd G' l k=>h' d G' ((lf _).trans l) k
 .exact acO aH rfl rfl rfl λd G' l k=>h' d G' (l1.trans l) k
noncomputable def isI:D->Bool
 |.int _=>ak
 |_=>ao
set_option tactic.hygienic true in
theorem acP(hd:kn G d)(h:R (.bl (isI d)) G):dJ K A [d] G R EX:=by
 refine⟨rfl,?_⟩;replace h:=aY.here h;show mX K A _ _ [aj d] G;cases d
 case ref q=>exists mX,a6R hd;exact h
 case ty n=>simp[kn,tyD]at hd
 all_goals exists mX
 all_goals exact h
set_option tactic.hygienic true in
theorem amL{g:Nat}(hd:kp G d)(h:R (.bl (isP d x 1 y)) G):jK K A [lQ x y g,d] G R EX:=by
 refine⟨rfl,?_⟩;replace h:=aY.here h;have hk:=hd.1;have hc:=hd.pr;show iC K A _ _ [aj (lQ x y g),aj d] G;cases d
 case ref q=>exists iC,mQ hk;exact h
 case ty n=>simp[kn,tyD]at hk
 case tup xs =>
  exists iC
  match xs,h,hc with
  |[],h,_=>exact h
  |[x],h,_=>exact h
  |x::y::z::r,h,_ =>
   rw[if_pos (by simp;omega)];exact h
  |[a,b],h,hc =>
   obtain⟨h1,h2⟩:=hc a b rfl;walk_at "wr";refine acP h1 ?_;cases a
   case int i =>
    walk_at "wr";refine acP h2 ?_;cases b
    case int j =>
     unfold lQ;exists u0;have e:decide (i<=(x:Int) - 1)=decide (i<(x:Int)):=decide_eq_decide.mpr (by omega);rw[as8,e]at h;revert h;generalize decide (0<=i)=b1;generalize decide (i<(x:Int))=b2;generalize decide (1<=j)=b3;cases b1<;>cases b2<;>cases b3<;>exact id
    all_goals walk_at "wr"
    all_goals (rw[show isP _ (x:Int) 1 (y:Int)=(isW (.int i) 0 ((x:Int) - 1)&&ao)from rfl,a1J]at h;exact h)
   all_goals walk_at "wr"
   all_goals exact h
 all_goals exists iC
 all_goals exact h
theorem three{P:Nat->Prop}{k:Nat}(hk:k<3)(h0:P 0)(h1:P 1)(h2:P 2):P k:=by
 rcases(show k=0∨k=1∨k=2 by omega)with rfl|rfl|rfl
 .exact h0
 .exact h1
 .exact h2
theorem aL6{b:D}{k:Nat}(hk:k<3):isW ([a,b,c].getD k .non) 1 (([26,99,20]:List Int).getD k 0)=ao->jO (.tup [a,b,c])=ao :=
 three (P:=λk=>isW ([a,b,c].getD k .non) 1 (([26,99,20]:List Int).getD k 0)=ao->jO (.tup [a,b,c])=ao) hk (λh=>by have h:isW a 1 26=ao:=h;simp[jO,h]) (λh=>by have h:isW b 1 99=ao:=h;simp[jO,h]) λh=>by have h:isW c 1 20=ao:=h;simp[jO,h]
theorem aFR{b:D}(h:∀k,k<3->isW ([a,b,c].getD k .non) 1 (([26,99,20]:List Int).getD k 0)=ak):jO (.tup [a,b,c])=ak:=by
 have h0:isW a 1 26=ak:=h 0 (by decide);have h1:isW b 1 99=ak:=h 1 (by decide);have h2:isW c 1 20=ak:=h 2 (by decide);simp[jO,h0,h1,h2]
set_option tactic.hygienic true in
theorem ahU(hd:kp G d)(h:∀G',Le G G'->R (.bl (jO d)) G'):iU K A [d] G R EX:=by
 refine⟨rfl,?_⟩;have h':∀G',Le G G'->aY R (.bl (jO d)) G':=λG' l=>aY.here (h G' l);clear h;have hk:=hd.1;have hc:=hd.pl;show fW K A _ _ [aj d,aq] G;cases d
 case ref q=>exists fW,mQ hk;exact h' _ (.refl _)
 case ty n=>simp[kn,tyD]at hk
 case tup xs =>
  exists fW
  match xs,h',hc with
  |[],h',_=>exact h' _ (.refl _)
  |[x],h',_=>exact h' _ (.refl _)
  |[x,y],h',_=>exact h' _ (.refl _)
  |x::y::z::w::r,h',_ =>
   rw[if_pos (by simp;omega)];exact h' _ (.refl _)
  |[a,b,c],h',hc =>
   obtain⟨k1,k2,k3⟩:=hc a b c rfl;exists rB;rw[if_neg (by decide)];refine aeY (λk ρ G'=>∃r1,ρ=[aj (.tup [a,b,c]),r1]/\(∀j,j<k->isW ([a,b,c].getD j .non) 1 (([26,99,20]:List Int).getD j 0)=ak)/\Le G G') ⟨_,rfl,(λj hj=>absurd hj (by omega)),.refl _⟩ (λk ρ G' h3 z=>?_) λρ G' z=>?_
   .obtain⟨r1,rfl,al,l⟩:=z;have h3:k<3:=by omega
    have kd:kn G' ([a,b,c].getD k .non):=ajP l (three (P:=λk=>kn G ([a,b,c].getD k .non)) h3 k1 k2 k3);have ix:zF [a,b,c] (k:Int)=aj ([a,b,c].getD k .non):=by rw[sE];exact three (P:=λk=>[a,b,c][k]?=aj ([a,b,c].getD k .non)) h3 rfl rfl rfl
    have no:=λh=>aL6 (a:=a) (b:=b) (c:=c) h3 h;exists pD;rw[a1W ix];refine acP kd ?_;generalize ee:[a,b,c].getD k .non=e at kd ix no
    have bad:isW e 1 (([26,99,20]:List Int).getD k 0)=ao->∀G2,Le G' G2->aY R (.bl ao) G2:=λz G2 l2=>by
     have:=h' _ (l.trans l2)
     rwa [no z]at this
    cases e
    case ty n=>simp[kn,tyD]at kd
    case int i =>
     unfold isI;walk_at "wr";rw[a1W ix];walk_at "wr";refine fP (λc1=>bad ?_ _ (.refl _)) λc1=>?_
     .have c1:i<1:=of_decide_eq_true c1;simp[isW,show ¬ 1<=i by omega]
     have c1:¬ i<1:=of_decide_eq_false c1;rw[a1W ix];walk_at "wr";intro p hp;rw[yK (d:=.int (([26,99,20]:List Int).getD k 0)) bD (by rw[sE];exact three (P:=λk=>[D.int 26,.int 99,.int 20][k]?=aj (.int (([26,99,20]:List Int).getD k 0))) h3 rfl rfl rfl)];walk_at "wr";refine fP (λc2=>bad ?_ _ (.new hp)) λc2=>?_
     .have c2:([26,99,20]:List Int).getD k 0<i:=of_decide_eq_true c2;simp only[isW,decide_eq_false (show ¬ i<=([26,99,20]:List Int).getD k 0 by omega),a1J]
     have c2:¬ ([26,99,20]:List Int).getD k 0<i:=of_decide_eq_false c2;refine⟨_,rfl,λj hj=>?_,l.trans (.new hp)⟩;by_cases e:j=k
     .subst e;rw[ee];simp only[isW,decide_eq_true (show 1<=i by omega),decide_eq_true (show i<=([26,99,20]:List Int).getD j 0 by omega),Bool.and_true]
     .exact al j (by omega)
    all_goals unfold isI
    all_goals walk_at "wr"
    all_goals exact bad rfl _ (.refl _)
   .obtain⟨r1,rfl,al,l⟩:=z;exists rA;have:=h' _ l
    rwa [aFR al]at this
 all_goals exists fW
 all_goals exact h' _ (.refl _)
theorem amM{ds:List D}{j:Nat}(h:G f=aj (.lst ds))(hj:j<=ds.length)(hl:ds.length<dg)(k:R .non (aL G f (.lst (ds.take j++z::ds.drop j)))):qD (.ref f) [.int (j:Int),z] G R:=by
 unfold L2.qD L2.a66;simp only[h];exact⟨j,rfl,hj,hl,k⟩
theorem aFS(h:R (.bl ao) G):zR (ahT o) (ahT o) G R:=by
 have go:∀(z:Str)(i:Int),zR (.tup [.str z,.int i]) (.tup [.str z,.int i]) G R:=λz i=>by
  obtain⟨a,b⟩:=TB.all (G:=G) (ds:=[.str z,.int i]) (all_cons ⟨rF rfl (by simp),.inl rfl⟩ (all_cons ⟨rF rfl (by simp),.inl rfl⟩ all_nil));refine⟨a,?_⟩;rw[b];exact h
 rcases o with _|_|_
 .exact go _ _
 .exact go _ _
 .exact go _ _
theorem ayT(hp:aM G p=aj ds)(hq:aM G q=aj ds)(hT:∀d∈ds,TB G d)(h:R (.bl ao) G):zR (.ref p) (.ref q) G R:=by
 obtain⟨a,b⟩:=TB.all hT
 show(match aM G p,aM G q with
  |some xs,aj ys=>a8T G xs ys=ak/\R (.bl (!xF G xs ys)) G
  |_,_=>False)
 rw[hp,hq];refine⟨a,?_⟩;rw[b];exact h
theorem ne_nil{ds:List D}(hp:aM G p=aj ds)(hq:aM G q=aj [])(h:R (.bl (!ds.isEmpty)) G):zR (.ref p) (.ref q) G R:=by
 show(match aM G p,aM G q with
  |some xs,aj ys=>a8T G xs ys=ak/\R (.bl (!xF G xs ys)) G
  |_,_=>False)
 rw[hp,hq];cases ds with
 |nil=>exact⟨rfl,h⟩
 |cons d ds=>exact⟨rfl,h⟩
theorem asY(h:R (.bl ak) G):aj2 (ahT aq) (.tup [.str "taken",.int 0]) G R:=by
 obtain⟨a,b⟩:=TB.all (G:=G) (ds:=[.str "taken",.int 0]) (all_cons ⟨rF rfl (by simp),.inl rfl⟩ (all_cons ⟨rF rfl (by simp),.inl rfl⟩ all_nil));refine⟨a,?_⟩;rw[b];exact h
theorem afZ:∀ds:List D,(!(ds.filter λe=>!f e).isEmpty)=!(ds.all f)
 |[]=>rfl
 |z::ds=>by
  rw[a0c,wk];cases f z with
  |false=>rfl
  |true=>exact afZ ds
theorem aFT{ds:List D}{w:Int}(T:Txt K mg A)(hw:0<=w/\w<4)(hb:G b=aj (.lst ds))(hk:∀e∈ds,TB G e)(dl:ds.length<60)(hd:kp G d)(hT:G A.cI=aj (.tab aZ.qual aZ.pos))(h:∀G',F.rt (.bl ak) G'):a0Q K A ex F [r0,aj d,r2,r3,r4,aj (.ref b),r6,aj (.int w),aj (ahT (a3U w d ds)),aq] G:=by
 have big:10000<dg:=by decide
 exists a0Q;rw[arD (bK hb)];intro c hc;have l1:=Le.new (o:=.lst ds) hc;exists afM;refine asV T hw bD (λe he=>((hk e he).le l1).1) (by omega) (hd.le l1) (l1 _ _ hT) λG2 l2=>?_;walk_at "wr";refine aFS ?_;walk_at "wr";have gc:G2 c=aj (.lst ds):=l2 _ _ aH;refine ayT (bK gc) (bK (l2 _ _ (l1 _ _ hb))) (λe he=>(hk e he).le (l1.trans l2)) ?_;exists afL;rw[wR,bK gc];refine⟨rfl,?_⟩;rw[axX gc];exists afK;rw[wR,bD];refine⟨rfl,?_⟩;walk_at "wr";rw[a07 aH (by show 0<dg;omega)];exists afJ;have nT:A.cI≠c:=λz=>by rw[z]at hT;rw[hT]at hc;cases hc
 refine asV (d:=lQ 1 1 1) (ds:=[eG (0,1)]) T hw bD (all_cons (lZ (all_cons rfl (all_cons rfl all_nil))) all_nil) (by decide) aKX (by rw[bC nT,bC nT];exact l2 _ _ (l1 _ _ hT)) λG3 l3=>?_;rw[show a3U w (lQ 1 1 1) [eG (0,1)]=aq from yU rfl λz=>nomatch z.2];walk_at "wr";exact asY (h _)
theorem aAH{ds:List D}(T:Txt K mg A)(hG:G a=aj (.rol (ns.map D.int)))(hb:G b=aj (.lst ds))(hk:∀e∈ds,TB G e)(dl:ds.length<60)(hd:kp G d)(hT:G A.cI=aj (.tab aZ.qual aZ.pos))(h:∀G',F.rt (.bl ak) G'):acJ K A ex F [aj (.ref a),aj d,r2,r3,r4,aj (.ref b),r6,aq,aq,aq] G:=by
 have big:10000<dg:=by decide
 exists acJ;refine w6 (k:=5) hG (by omega) ?_;exists afO;have hw:0<=cellAt ns 5%4/\cellAt ns 5%4<4:=by omega
 generalize cellAt ns 5%4=w at hw;exists afN;refine ahU hd λG1 l1=>?_;walk_at "wr"
 have fin:∀G2,Le G1 G2->∀o,o=a3U w d ds->a0Q K A ex F [aj (.ref a),aj d,r2,r3,r4,aj (.ref b),r6,aj (.int w),aj (ahT o),aq] G2:=λG2 l2 o eo=>by
  subst eo;exact aFT T hw (l2 _ _ (l1 _ _ hb)) (λe he=>(hk e he).le (l1.trans l2)) dl (hd.le (l1.trans l2)) (l2 _ _ (l1 _ _ hT)) h
 cases e:jO d with
 |false =>
  walk_at "wr";exact fin _ (.refl _) (aj ao) (a7T e).symm
 |true =>
  walk_at "wr";obtain⟨x,y,g,rfl,o⟩:=a0X e;refine fP (λcw=>?_) λcw=>?_
  .have cw:w<2:=of_decide_eq_true cw;rw[qG (bK (l1 _ _ hb))];refine ajN (λe=>!isP e x 1 y) (λd=>d) (by show ds.length<_;omega) (bK (l1 _ _ hb)) (λz hz G' l Q k=>?_) (λz hz _ G' l Q k=>?_) λc hc=>?_
   .have kz:=(hk z hz).1.le (l1.trans l);walk_at "wr";refine amL kz ?_;walk_at "wr";exact k _ (.refl _)
   .walk_at "wr";exact k _ (.refl _)
   walk_at "wr";intro c2 hc2;refine ne_nil (cM (.new hc2) bD) bD ?_;have l3:=(Le.new (o:=.lst (((Src.lst b ds).items.filter λe=>!isP e x 1 y).map λd=>d)) hc).trans (Le.new (o:=.lst []) hc2)
   have em:(!(((Src.lst b ds).items.filter λe=>!isP e x 1 y).map λd=>d).isEmpty)=!allB (lQ x y g) ds:=by
    rw[List.map_id'];exact afZ ds
   rw[em];cases c:allB (lQ x y g) ds with
   |false =>
    walk_at "wr";exact fin _ l3 (aj ak) (acN e cw c).symm
   |true =>
    walk_at "wr";exact fin _ l3 aq (yU e λz=>by rw[c]at z;cases z.2).symm
  .have cw:¬ w<2:=of_decide_eq_false cw;exact fin _ (.refl _) aq (yU e λz=>cw z.1).symm
theorem aL7(T:Txt K mg A)(hG:G a=aj (.rol (ns.map D.int)))(hT:G A.cI=aj (.tab aZ.qual aZ.pos))(h:∀G',R (.bl ak) G'):acK K A [.ref a] G R EX:=by
 have big:10000<dg:=by decide
 refine⟨rfl,?_⟩;have h':∀G',aY R (.bl ak) G':=λG'=>aY.here (h G');clear h;show arX K A _ _ [aj (.ref a),aq,aq,aq,aq,aq,aq,aq,aq,aq] G;exists arX;refine amK hG λd G1 l1 kd=>?_;exists ak4;refine w6 (k:=0) (l1 _ _ hG) (by omega) ?_;exists ak3,ak2;have hx:1<=1+cellAt ns 0%5/\1+cellAt ns 0%5<=5:=by omega
 have hy:1<=1+cellAt ns 0 / 5%7/\1+cellAt ns 0 / 5%7<=7:=by omega
 generalize 1+cellAt ns 0%5=x at hx;generalize 1+cellAt ns 0 / 5%7=y at hy;exists ak1;intro b hb;exists ak0;refine w6 (k:=2) ((Le.new hb) _ _ (l1 _ _ hG)) (by omega) ?_;walk_at "wr";refine aeY (λk ρ G'=>∃r2 r6 ds,ρ=[aj (.ref a),aj d,r2,aj (.int x),aj (.int y),aj (.ref b),r6,aq,aq,aq]/\HS G1 b ds G'/\(∀e∈ds,∃i j:Int,e=.tup [.int i,.int j])/\ds.length=k) ⟨_,_,[],rfl,.mk0,(λe he=>by cases he),rfl⟩ (λk ρ G' hk z=>?_) λρ G' z=>?_
 .obtain⟨_,_,ds,rfl,s,hB,bl⟩:=z;exists afI;rw[show(8:Int)+(k:Int)=((8+k:Nat):Int) by omega];refine w6 (k:=8+k) (s.leG hb _ _ (l1 _ _ hG)) (by omega) ?_;generalize cellAt ns (8+k)=c;exists a7O;rw[wR,bK s.1];refine⟨rfl,?_⟩;walk_at "wr";rw[a07 s.1 (by omega)];refine⟨_,_,ds++[.tup [.int (c%x),.int (1+c / x%y)]],rfl,s.snd,λe he=>?_,by simp[bl]⟩;rcases xu.mp he with he|he
  .exact hB e he
  .rw[su]at he;exact⟨_,_,he⟩
 obtain⟨_,_,ds,rfl,s,hB,bl⟩:=z;have lb:=s.leG hb
 have tb:∀G2,∀e∈ds,TB G2 e:=λG2 e he=>by
  obtain⟨i,j,rfl⟩:=hB e he;exact⟨lZ (all_cons rfl (all_cons rfl all_nil)),.inl rfl⟩
 exists ajZ;refine w6 (k:=3) (lb _ _ (l1 _ _ hG)) (by omega) ?_;exists ajY;refine fP (λ_=>?_) λ_=>?_
 .rw[wR,bK s.1];refine⟨rfl,?_⟩;exists wU (bK s.1);refine w6 (k:=4) (lb _ _ (l1 _ _ hG)) (by omega) ?_;walk_at "wr";refine ayS λe G3 l3 te fe=>?_;walk_at "wr";have m0:=Int.emod_nonneg (cellAt ns 3 / 3) (show(ds.length:Int)+1≠0 by omega);have m1:=Int.emod_lt_of_pos (cellAt ns 3 / 3) (show 0<(ds.length:Int)+1 by omega);obtain⟨j,ej⟩:∃j:Nat,cellAt ns 3 / 3%((ds.length:Int)+1)=(j:Int):=⟨(cellAt ns 3 / 3%((ds.length:Int)+1)).toNat,by omega⟩;rw[ej];refine amM (l3 _ _ s.1) (by omega) (by omega) ?_
  have lf:∀o:GO,Le G1 (aL G3 b o):=λo z u e=>by
   rw[bC (a1X e hb)];exact l3 _ _ (lb _ _ e)
  refine aAH T (lf _ _ _ (l1 _ _ hG)) aH (λz hz=>?_) (by rw[vp,ug,wj,List.length_drop];omega) (kd.le (lf _)) (lf _ _ _ (l1 _ _ hT)) h';rcases xu.mp hz with hz|hz
  .exact tb _ z (List.mem_of_mem_take hz)
  rcases jm.mp hz with rfl|hz
  .exact te.upd λp ep=>λz=>by
    have:=fe p ep;rw[z,s.1]at this;cases this
  .exact tb _ z (List.mem_of_mem_drop hz)
 .exact aAH T (lb _ _ (l1 _ _ hG)) s.1 (tb _) (by omega) (kd.le lb) (lb _ _ (l1 _ _ hT)) h'
theorem main(T:Txt K mg A)(a:bx)(ns:List Int)(hl:ns.length<=63)(G:Gp)(hG:G a=aj (.rol (ns.map D.int)))(hT:G A.cI=aj (GO.tab aZ.qual aZ.pos)):acK K A [.ref a] G (λd _=>d=.bl ak) (λ_ _=>False):=aL7 T hG hT λ_=>rfl
end
end Law
namespace Law
open PySem PySem.Spec PyProof.Rows L2 L4 PySem.W
variable{qt:Bool}{x:Str}{st:kj}{f:bx}{ps:List Str}
section
variable{P:jt}{w:iy}{K:Fg}{mg:Str->Option bh}{base:jj}{A:bF}
local macro_rules| `(tactic| walk_at "sc")=>`(tactic| exact⟨rfl,rfl,rfl,by decide+kernel,rfl,by decide+kernel,by decide+kernel⟩)
theorem pK{j k:Nat}{d:ju}{sp:gW}{n:Nat}(h:bY qt P w K mg base (gZ P w) j f d ps (cH K sp))(t:xY K mg x st f d ps)(hj:j<=k:=by decide):GTs P w K mg base k x (.fn sp n qt):=⟨_,_,_,h.mono hj,t.m,t.F.kp,t.B⟩
theorem ExT.g{k:Nat}(t:ExT K mg x c):GTs P w K mg base k x (.cls c):=⟨t.m,t.x,t.cs,t.ty,t.be⟩
theorem dc{qual:Str}{fd:ju}{k:Nat}{S:SI}{c:CB}{tb:aX->bI}(F:Fun K x qual st f fd)(hS:bA S.N ps (aW st))(hc:S.calm=!qt)(hv:a6Q S (aW st)=ak)(hk:kB S 0 c (bU st)=ak)(he:(λEX=>mB S.gl K (λ_=>EX) c)=tb)(hg:∀(j:Nat)(y:Str)(g:GT),S.gl[j]?=aj (y,g)->GTs P w K mg base k y g)(hn:S.need=ao:=by rfl):bY qt P w K mg base (gZ P w) (k+1) f fd ps (cH K (wQ S.N.length ps.length tb)):=by
 rw[←he];exact aqP F hS hc hv hk hg hn
theorem a3H(T:Txt K mg A)(hB:yL base mg A):bY ao P w K mg base (gZ P w) 1 A.a6Z A.sG ["thing","least","most"] (cH K (dF K A)) :=
 dc (S:=ahH K A) (c:=ahG) T.iV.F (show bA ["thing","least","most"] ["thing","least","most"] _ from by walk_at "sc") rfl (by kernel_rfl) (by kernel_rfl) (by kernel_rfl) (cP ⟨T.as4,agW⟩ (cP ⟨T.eX,dI⟩ (cP ⟨T.arZ,aiV⟩ yJ)))
theorem a7U(T:Txt K mg A)(hB:yL base mg A):bY ao P w K mg base (gZ P w) 2 A.aaP A.wW ["thing","aisles","first","last"] (cH K (jV K A)) :=
 dc (S:=am2 K A) (c:=am1) T.jY.F (show bA ["thing","aisles","first","last"] ["thing","aisles","first","last"] _ from by walk_at "sc") rfl (by kernel_rfl) (by kernel_rfl) (by kernel_rfl) (cP ⟨T.a0T,uQ⟩ (cP ⟨T.eX,dI⟩ (cP ⟨T.a3F,uP⟩ (cP (pK (a3H T hB) T.iV) yJ))))
theorem ahV(T:Txt K mg A)(hB:yL base mg A):bY ao P w K mg base (gZ P w) 2 A.aaQ A.wX ["thing"] (cH K (sU K A)) :=
 dc (S:=am4 K A) (c:=am3) T.n8.F (show bA ["thing"] ["thing"] _ from by walk_at "sc") rfl (by kernel_rfl) (by kernel_rfl) (by kernel_rfl) (cP ⟨T.a0T,uQ⟩ (cP ⟨T.eX,dI⟩ (cP ⟨T.a3F,uP⟩ (cP (gcI T.iI) (cP (pK (a3H T hB) T.iV) (cP (gcI T.iJ) (cP (gcI T.oE) yJ)))))))
theorem gJ(T:Txt K mg A)(hB:yL base mg A):bY ao P w K mg base (gZ P w) 3 A.a2Z A.oV ["plan"] (cH K (bN K A)) :=
 dc (S:=afB K A) (c:=afA) T.cJ.F (show bA ["plan"] ["plan"] _ from by walk_at "sc") rfl (by kernel_rfl) (by kernel_rfl) (by kernel_rfl) (cP (pK (ahV T hB) T.n8) (cP T.lN.g yJ))
theorem amN(T:Txt K mg A)(hB:yL base mg A):bY ao P w K mg base (gZ P w) 4 A.af7 A.a0B ["plan","thing"] (cH K (xA K A)) :=
 dc (S:=arU K A) (c:=arT) T.rC.F (show bA ["plan","thing"] ["plan","thing"] _ from by walk_at "sc") rfl (by kernel_rfl) (by kernel_rfl) (by kernel_rfl) (cP (pK (gJ T hB) T.cJ) (cP (pK (a7U T hB) T.jY) yJ))
theorem ahW(T:Txt K mg A)(hB:yL base mg A):bY ao P w K mg base (gZ P w) 4 A.aaR A.wY ["plan","thing"] (cH K (sV K A)) :=
 dc (S:=am7 K A) (c:=am6) T.nA.F (show bA ["plan","thing"] ["plan","thing"] _ from by walk_at "sc") rfl (by kernel_rfl) (by kernel_rfl) (by kernel_rfl) (cP (pK (gJ T hB) T.cJ) (cP (pK (a7U T hB) T.jY) yJ))
theorem aFU(T:Txt K mg A)(hB:yL base mg A):bY ao P w K mg base (gZ P w) 5 A.aAB A.ajV ["plan","one","other"] (cH K (ahI K A)) :=
 dc (S:=aKT K A) (c:=aKS) T.aaW.F (show bA ["plan","one","other","by_front","by_back"] ["plan","one","other"] _ from by walk_at "sc") rfl (by kernel_rfl) (by kernel_rfl) (by kernel_rfl) (cP (pK (ahW T hB) T.nA) (cP T.mY.g (cP ⟨T.aAD,aoL⟩ (cP ⟨T.as6,agV⟩ yJ))))
theorem ag0(T:Txt K mg A)(hB:yL base mg A):bY ao P w K mg base (gZ P w) 5 A.a70 A.sH ["plan","thing"] (cH K (oZ K A)) :=
 dc (S:=ahK K A) (c:=ahJ) T.jZ.F (show bA ["plan","thing"] ["plan","thing"] _ from by walk_at "sc") rfl (by kernel_rfl) (by kernel_rfl) (by kernel_rfl) (cP (pK (amN T hB) T.rC) (cP T.mY.g yJ))
theorem yV(T:Txt K mg A)(hB:yL base mg A):bY ao P w K mg base (gZ P w) 1 A.oW A.fQ ["bins"] (cH K (eU K A)) :=
 dc (S:=a0H K A) (c:=a0G) T.cN.F (show bA ["bins","last","aisles","aisle","place"] ["bins"] _ from by walk_at "sc") rfl (by kernel_rfl) (by kernel_rfl) (by kernel_rfl) (cP ⟨T.aAE,aoM⟩ (cP ⟨T.a4U,a04⟩ yJ))
theorem a3I(T:Txt K mg A)(hB:yL base mg A):bY ao P w K mg base (gZ P w) 1 A.a71 A.sI ["places","end"] (cH K (j4 K A)) :=
 dc (S:=ahM K A) (c:=ahL) T.iW.F (show bA ["places","end"] ["places","end"] _ from by walk_at "sc") rfl (by kernel_rfl) (by kernel_rfl) (by kernel_rfl) (cP ⟨T.aAE,aoM⟩ (cP ⟨T.as6,agV⟩ yJ))
theorem a3V(T:Txt K mg A)(hB:yL base mg A):bY ao P w K mg base (gZ P w) 2 A.vH A.j9 ["plan","places","end","goal"] (cH K (iQ K A)) :=
 dc (S:=a77 K A) (c:=a76) T.dW.F (show bA ["plan","places","end","goal"] ["plan","places","end","goal"] _ from by walk_at "sc") rfl (by kernel_rfl) (by kernel_rfl) (by kernel_rfl) (cP ⟨T.a3F,uP⟩ (cP (pK (a3I T hB) T.iW) (cP ⟨T.aAD,aoL⟩ yJ)))
theorem a7V(T:Txt K mg A)(hB:yL base mg A):bY ao P w K mg base (gZ P w) 3 A.xV A.lC ["plan","places","ways"] (cH K (jH K A)) :=
 dc (S:=a91 K A) (c:=a90) T.fH.F (show bA ["plan","places","ways","found","end","way","goal","one"] ["plan","places","ways"] _ from by walk_at "sc") rfl (by kernel_rfl) (by kernel_rfl) (by kernel_rfl) (cP (pK (a3V T hB) T.dW) (cP ⟨T.as6,agV⟩ yJ))
theorem a2E(T:Txt K mg A)(hB:yL base mg A):bY ao P w K mg base (gZ P w) 4 A.tV A.iK ["plan","aisles"] (cH K (gF K A)) :=
 dc (S:=a3R K A) (c:=a3Q) T.d7.F (show bA ["plan","aisles","ways","places"] ["plan","aisles"] _ from by walk_at "sc") rfl (by kernel_rfl) (by kernel_rfl) (by kernel_rfl) (cP (pK (a7V T hB) T.fH) yJ)
theorem a3W(T:Txt K mg A)(hB:yL base mg A):bY ao P w K mg base (gZ P w) 2 A.vI A.jA ["aisle","places","end","goal"] (cH K (iR K A)) :=
 dc (S:=a79 K A) (c:=a78) T.dX.F (show bA ["aisle","places","end","goal"] ["aisle","places","end","goal"] _ from by walk_at "sc") rfl (by kernel_rfl) (by kernel_rfl) (by kernel_rfl) (cP ⟨T.a3F,uP⟩ (cP (pK (a3I T hB) T.iW) yJ))
theorem asZ(T:Txt K mg A)(hB:yL base mg A):bY ao P w K mg base (gZ P w) 1 A.ajW A.a4S ["spots","spot"] (cH K (vP K A)) :=
 dc (S:=ayC K A) (c:=ayB) T.xB.F (show bA ["spots","spot"] ["spots","spot"] _ from by walk_at "sc") rfl (by kernel_rfl) (by kernel_rfl) (by kernel_rfl) yJ
theorem ag1(T:Txt K mg A)(hB:yL base mg A):bY ao P w K mg base (gZ P w) 3 A.a72 A.sJ ["aisles","ends"] (cH K (pA K A)) :=
 dc (S:=ahO K A) (c:=ahN) T.kJ.F (show bA ["aisles","ends","spots","end","aisle","goal","spot"] ["aisles","ends"] _ from by walk_at "sc") rfl (by kernel_rfl) (by kernel_rfl) (by kernel_rfl) (cP (gcT T.a7P) (cP ⟨T.a3E,a03⟩ (cP (pK (a3W T hB) T.dX) (cP (pK (asZ T hB) T.xB) yJ))))
theorem akE(T:Txt K mg A)(hB:yL base mg A):bY ao P w K mg base (gZ P w) 6 A.arS A.acD ["plan","bins"] (cH K (mV K A)) :=
 dc (S:=aFG K A) (c:=aFF) T.yQ.F (show bA ["plan","bins","spot","aisles"] ["plan","bins"] _ from by walk_at "sc") rfl (by kernel_rfl) (by kernel_rfl) (by kernel_rfl) (cP (pK (gJ T hB) T.cJ) (cP (pK (ag0 T hB) T.jZ) (cP (pK (yV T hB) T.cN) (cP (pK (a2E T hB) T.d7) (cP (pK (ag1 T hB) T.kJ) yJ)))))
theorem amO(T:Txt K mg A)(hB:yL base mg A):bY ao P w K mg base (gZ P w) 6 A.af8 A.a0C ["plan","spots"] (cH K (n6 K A)) :=
 dc (S:=arW K A) (c:=arV) T.rD.F (show bA ["plan","spots"] ["plan","spots"] _ from by walk_at "sc") rfl (by kernel_rfl) (by kernel_rfl) (by kernel_rfl) (cP (pK (gJ T hB) T.cJ) (cP ⟨T.aAF,aqY⟩ (cP (pK (aFU T hB) T.aaW) (cP ⟨T.aKW,aCT⟩ yJ))))
theorem a2F(T:Txt K mg A)(hB:yL base mg A):bY ao P w K mg base (gZ P w) 1 A.tW A.iM ["one","other"] (cH K (gG K A)) :=
 dc (S:=a3T K A) (c:=a3S) T.d8.F (show bA ["one","other","step"] ["one","other"] _ from by walk_at "sc") rfl (by kernel_rfl) (by kernel_rfl) (by kernel_rfl) (cP ⟨T.a4U,a04⟩ yJ)
theorem ag2(T:Txt K mg A)(hB:yL base mg A):bY ao P w K mg base (gZ P w) 4 A.ajX A.a4T ["plan","spots","bins"] (cH K (lK K A)) :=
 dc (S:=ayE K A) (c:=ayD) T.sZ.F (show bA ["plan","spots","bins","wanted","met","one","other","spot"] ["plan","spots","bins"] _ from by walk_at "sc") rfl (by kernel_rfl) (by kernel_rfl) (by kernel_rfl) (cP (pK (gJ T hB) T.cJ) (cP ⟨T.as3,aiX⟩ (cP ⟨T.aAF,aqY⟩ (cP (pK (a2F T hB) T.d8) (cP ⟨T.as5,aiW⟩ yJ)))))
theorem a97(T:Txt K mg A)(hB:yL base mg A):uX ao P w K mg base 1 aZ (iB K A):=by
 have h:=aqW (P:=P) (w:=w) (K:=K) (mg:=mg) (base:=base) (k:=0) (c:=aZ) (ps:=["row"]) (S:=a0O K A) (ce:=a0N) (show ScX ["turns","row"] ["row"] "turns" aZ.scope from⟨rfl,rfl,rfl,by decide+kernel,rfl,by decide+kernel,alP (by decide+kernel),rfl⟩) (by decide+kernel) (λ_ _ _ _ us hl=>match us,hl with|[_],_=>rfl) rfl (by kernel_rfl) (by kernel_rfl) yJ;have e:(mE (a0O K A).gl K (λ_=>fO λ_ _=>False) a0N)=mW K A (λ_=>fO λ_ _=>False):=by kernel_rfl
 rw[e]at h;exact h
theorem amP(T:Txt K mg A)(hB:yL base mg A):bY ao P w K mg base (gZ P w) 7 A.af9 A.vJ ["plan","rows"] (cH K (jW K A)):=by
 have h:=aqX (P:=P) (w:=w) (K:=K) (mg:=mg) (base:=base) (k:=4) (S:=afF K A) (ix:=4) (c:=aZ) (sp:=iB K A) (c1:=a7D) (ce:=a7E) (cl:=a7F) (pre:=(bU f9).take 4) (e:=aOQ (inBody f9 4)) (l:=aOR (inBody f9 4)) (kt:=(alR (inBody f9 4)).1) (p1:=(alR (inBody f9 4)).2.1) (p2:=(alR (inBody f9 4)).2.2.1) (pt:=(alR (inBody f9 4)).2.2.2.1) (pr:=(alR (inBody f9 4)).2.2.2.2.1) (kp:=(alR (inBody f9 4)).2.2.2.2.2) T.o9.F (show bA ["plan","rows","bins","spots","turns"] ["plan","rows"] _ from by walk_at "sc") (by kernel_rfl) (λ_=>rfl) (by kernel_rfl) T.a0F hB.2 hB.1 (by kernel_rfl) rfl (by kernel_rfl) (by kernel_rfl) T.as7 (uX.mono (a97 T hB) (by decide)) rfl (by kernel_rfl) (by kernel_rfl) (by kernel_rfl) rfl (by kernel_rfl) rfl (cP (pK (gJ T hB) T.cJ) (cP (pK (akE T hB) T.yQ) (cP ⟨T.a3E,a03⟩ (cP (pK (ag2 T hB) T.sZ) (cP ⟨T.as3,aiX⟩ yJ)))));have e:(λEX=>aEB (afF K A).gl K (λ_=>EX) A.cI aZ 4 (iB K A) a7D a7E a7F)=λEX=>lM K A (λ_=>EX):=by kernel_rfl
 rw[e]at h;exact h
theorem u5(T:Txt K mg A)(hB:yL base mg A):bY ao P w K mg base (gZ P w) 1 A.vK A.jB ["_law_script","_law_k"] (cH K (bJ K A)) :=
 dc (S:=a7H K A) (c:=a7G) T.cV.F (show bA ["_law_script","_law_k","_law_mixed"] ["_law_script","_law_k"] _ from by walk_at "sc") rfl (by kernel_rfl) (by kernel_rfl) (by kernel_rfl) (cP ⟨T.a3F,uP⟩ yJ)
theorem yC(T:Txt K mg A)(hB:yL base mg A):bY ao P w K mg base (gZ P w) 1 A.a0D A.mR ["_law_found"] (cH K (dJ K A)) :=
 dc (S:=acG K A) (c:=acF) T.eV.F (show bA ["_law_found"] ["_law_found"] _ from by walk_at "sc") rfl (by kernel_rfl) (by kernel_rfl) (by kernel_rfl) (cP ⟨T.as4,agW⟩ (cP ⟨T.eX,dI⟩ (cP ⟨T.arZ,aiV⟩ yJ)))
theorem u6(T:Txt K mg A)(hB:yL base mg A):bY ao P w K mg base (gZ P w) 1 A.vL A.jC ["_law_cell","_law_low","_law_high"] (cH K (cO K A)) :=
 dc (S:=a7J K A) (c:=a7I) T.cW.F (show bA ["_law_cell","_law_low","_law_high","_law_far_off"] ["_law_cell","_law_low","_law_high"] _ from by walk_at "sc") rfl (by kernel_rfl) (by kernel_rfl) (by kernel_rfl) yJ
theorem a3X(T:Txt K mg A)(hB:yL base mg A):bY ao P w K mg base (gZ P w) 2 A.vM A.jD ["_law_script"] (cH K (iT K A)) :=
 dc (S:=a7L K A) (c:=a7K) T.dY.F (show bA ["_law_script","_law_cell","_law_plan","_law_way","_law_at"] ["_law_script"] _ from by walk_at "sc") rfl (by kernel_rfl) (by kernel_rfl) (by kernel_rfl) (cP (pK (u5 T hB) T.cV) (cP (pK (u6 T hB) T.cW) (cP ⟨T.a0T,uQ⟩ yJ)))
theorem a3Y(T:Txt K mg A)(hB:yL base mg A):bY ao P w K mg base (gZ P w) 2 A.vN A.jE ["_law_plan"] (cH K (iU K A)) :=
 dc (S:=a7N K A) (c:=a7M) T.dZ.F (show bA ["_law_plan","_law_k"] ["_law_plan"] _ from by walk_at "sc") rfl (by kernel_rfl) (by kernel_rfl) (by kernel_rfl) (cP ⟨T.a0T,uQ⟩ (cP ⟨T.eX,dI⟩ (cP ⟨T.a3F,uP⟩ (cP ⟨T.a4U,a04⟩ (cP (pK (yC T hB) T.eV) yJ)))))
theorem a7W(T:Txt K mg A)(hB:yL base mg A):bY ao P w K mg base (gZ P w) 2 A.xW A.lD ["_law_plan","_law_thing"] (cH K (jK K A)) :=
 dc (S:=a93 K A) (c:=a92) T.fJ.F (show bA ["_law_plan","_law_thing"] ["_law_plan","_law_thing"] _ from by walk_at "sc") rfl (by kernel_rfl) (by kernel_rfl) (by kernel_rfl) (cP ⟨T.a0T,uQ⟩ (cP ⟨T.eX,dI⟩ (cP ⟨T.a3F,uP⟩ (cP (pK (yC T hB) T.eV) yJ))))
theorem a98(T:Txt K mg A)(hB:yL base mg A):bY ao P w K mg base (gZ P w) 2 A.a0E A.mU ["_law_cell","_law_aisles","_law_places"] (cH K (lE K A)) :=
 dc (S:=acI K A) (c:=acH) T.gH.F (show bA ["_law_cell","_law_aisles","_law_places"] ["_law_cell","_law_aisles","_law_places"] _ from by walk_at "sc") rfl (by kernel_rfl) (by kernel_rfl) (by kernel_rfl) (cP (pK (u6 T hB) T.cW) yJ)
theorem acQ(T:Txt K mg A)(hB:yL base mg A):bY ao P w K mg base (gZ P w) 8 A.a3A A.oX ["_law_which","_law_plan","_law_bins"] (cH K (jM K A)) :=
 dc (S:=afH K A) (c:=afG) T.j5.F (show bA ["_law_which","_law_plan","_law_bins","error"] ["_law_which","_law_plan","_law_bins"] _ from by walk_at "sc") rfl (by kernel_rfl) (by kernel_rfl) (by kernel_rfl) (cP T.jN.g (cP (pK (akE T hB) T.yQ) (cP (pK (amP T hB) T.o9) (cP (pK (amO T hB) T.rD) (cP (pK (ag2 T hB) T.sZ) (cP T.a0R.g (cP ⟨T.eX,dI⟩ (cP T.oA.g (cP T.vZ.g (cP T.a0S.g (cP ⟨T.acL,a8S⟩ (cP T.lN.g (cP T.mY.g (cP ⟨T.as4,agW⟩ yJ))))))))))))))
theorem aFV(T:Txt K mg A)(hB:yL base mg A):bY ao P w K mg base (gZ P w) 9 A.a73 A.aAC ["_law_script"] (cH K (acK K A)) :=
 dc (S:=aKU K A) (c:=afP) T.aKV.F (show bA ["_law_script","_law_plan","_law_cell","_law_aisles","_law_places","_law_bins","_law_k","_law_which","_law_due","_law_handed"] ["_law_script"] _ from by walk_at "sc") rfl (by kernel_rfl) (by kernel_rfl) (by kernel_rfl) (cP (pK (a3X T hB) T.dY) (cP (pK (u5 T hB) T.cV) (cP ⟨T.a4U,a04⟩ (cP ⟨T.a3F,uP⟩ (cP (pK (a98 T hB) T.gH) (cP (pK (a3Y T hB) T.dZ) (cP (pK (a7W T hB) T.fJ) (cP ⟨T.as5,aiW⟩ (cP (pK (acQ T hB) T.j5) yJ)))))))))
end
noncomputable def akF(K:Fg)(T:bx):Sp:=λvs H Q _=>∃(a:bx)(ns:List Int),vs=[.ref a]/\pO K H a (ns.map V.int)/\ns.length<=63/\K.lookup T=aq/\H T=aj (.xH #[])/\∀H',Q (.bl ak) H'
variable{mg:Str->Option bh}
theorem ayU{K:Fg}{A:bF}(T:Txt K mg A):∀vs H Q E,akF K A.cI vs H Q E->cH K (acK K A) vs H Q E:=by
 rintro vs H Q E ⟨a,ns,rfl,hS,hl,hK,hT,k⟩
 have ne:A.cI≠a:=λz=>by
  rw[←z]at hS;rcases hS with(e|⟨o,e⟩)|⟨o,_,_,e,_⟩
  .rw[hT]at e;cases e
  .rw[hT]at e;cases e
  .rw[hK]at e;cases e
 refine⟨[.ref a],λb=>if b=a then aj (.rol (ns.map D.int))else if b=A.cI then aj (GO.tab aZ.qual aZ.pos)else aq,λd _=>d=.bl ak,λ_ _=>False,.cons (.ref a) .nil,λb o e=>?_,main T a ns hl _ (if_pos rfl) ((if_neg ne).trans (if_pos rfl)),λv H' d G' r g e=>?_,λC H' G' g z=>z.elim⟩
 .have e2:(if b=a then aj (GO.rol (ns.map D.int))else if b=A.cI then aj (GO.tab aZ.qual aZ.pos)else aq)=aj o:=e;by_cases hb:b=a
  .subst hb;rw[if_pos rfl]at e2;cases e2;exact⟨_,hS,bQ.ints ns⟩
  .rw[if_neg hb]at e2;by_cases hb2:b=A.cI
   .subst hb2;rw[if_pos rfl]at e2;cases e2;exact⟨#[],hT,.inl rfl⟩
   .rw[if_neg hb2]at e2;cases e2
 .subst e;cases r;exact k H'
def Cb(K:Fg)(x q:Str)(st:kj)(f:bx):Prop:=∃oc kV dc pm cd ct od an sl,K.lookup f=aj ⟨oc,od,.func (qx x q (dB st) (bU st) (aW st) .none kV dc pm an cd ct),sl⟩/\a1z K cd q=ak/\tu K (.ref f)=ak
theorem Cb.get{K:Fg}{q:Str}(b:Cb K x q st f)(ps:List Str)(h:∀kV dc pm an cd ct,∀us:List bh,us.length=ps.length->zj (qx x q (dB st) (bU st) (aW st) .none kV dc pm an cd ct) ⟨us,[]⟩=pure (ps.zip us)):∃d,Fun K x q st f d/\Binds K d ps []/\tu K (.ref f)=ak:=by
 obtain⟨oc,kV,dc,pm,cd,ct,od,an,sl,l,c,k⟩:=b;exact⟨_,ao1 (st:=st) l c k,ajL (h _ _ _ _ _ _),k⟩
def Fb(K:Fg)(x:Str)(st:kj)(f:bx):Prop:=mq K ji x=aj (aj (.ref f))/\Cb K x x st f
theorem len1{q:Str}(k:∀kV dc pm an cd ct a,zj (qx q q (dB st) (bU st) (aW st) .none kV dc pm an cd ct) ⟨[a],[]⟩=pure (ps.zip [a])):∀kV dc pm an cd ct,∀us:List bh,us.length=1->zj (qx q q (dB st) (bU st) (aW st) .none kV dc pm an cd ct) ⟨us,[]⟩=pure (ps.zip us):=λ_ _ _ _ _ _ us h=>by
 rcases us with _|⟨a,_|⟨_,_⟩⟩<;>first|exact k _ _ _ _ _ _ a|simp at h
theorem len2{q:Str}(k:∀kV dc pm an cd ct a b,zj (qx q q (dB st) (bU st) (aW st) .none kV dc pm an cd ct) ⟨[a,b],[]⟩=pure (ps.zip [a,b])):∀kV dc pm an cd ct,∀us:List bh,us.length=2->zj (qx q q (dB st) (bU st) (aW st) .none kV dc pm an cd ct) ⟨us,[]⟩=pure (ps.zip us):=λ_ _ _ _ _ _ us h=>by
 rcases us with _|⟨a,_|⟨b,_|⟨_,_⟩⟩⟩<;>first|exact k _ _ _ _ _ _ a b|simp at h
theorem ahX{q:Str}(k:∀kV dc pm an cd ct a b c,zj (qx q q (dB st) (bU st) (aW st) .none kV dc pm an cd ct) ⟨[a,b,c],[]⟩=pure (ps.zip [a,b,c])):∀kV dc pm an cd ct,∀us:List bh,us.length=3->zj (qx q q (dB st) (bU st) (aW st) .none kV dc pm an cd ct) ⟨us,[]⟩=pure (ps.zip us):=λ_ _ _ _ _ _ us h=>by
 rcases us with _|⟨a,_|⟨b,_|⟨c,_|⟨_,_⟩⟩⟩⟩<;>first|exact k _ _ _ _ _ _ a b c|simp at h
theorem aFW{q:Str}(k:∀kV dc pm an cd ct a b c d,zj (qx q q (dB st) (bU st) (aW st) .none kV dc pm an cd ct) ⟨[a,b,c,d],[]⟩=pure (ps.zip [a,b,c,d])):∀kV dc pm an cd ct,∀us:List bh,us.length=4->zj (qx q q (dB st) (bU st) (aW st) .none kV dc pm an cd ct) ⟨us,[]⟩=pure (ps.zip us):=λ_ _ _ _ _ _ us h=>by
 rcases us with _|⟨a,_|⟨b,_|⟨c,_|⟨d,_|⟨_,_⟩⟩⟩⟩⟩<;>first|exact k _ _ _ _ _ _ a b c d|simp at h
theorem Fb.get{K:Fg}{q:Str}{st:kj}{f:bx}{h:jj}{mg:Str->Option bh}(b:Fb K q st f)(XK:K.In h)(GG:h.Ns ji mg)(ps:List Str)(h:∀kV dc pm an cd ct,∀us:List bh,us.length=ps.length->zj (qx q q (dB st) (bU st) (aW st) .none kV dc pm an cd ct) ⟨us,[]⟩=pure (ps.zip us)):∃d,xY K mg q st f d ps:=by
 obtain⟨d,F,B,_⟩:=b.2.get ps h;exact⟨d,F,B,a0k XK GG b.1⟩
def Mb(K:Fg)(c:bx)(x q:Str)(st:kj)(f:bx):Prop:=qg K (.ref c) x=aj (aj (.ref f))/\PySem.W.isFn K (.ref f)=ak/\Cb K x q st f
theorem Mb.get{K:Fg}{c:bx}{x q:Str}{st:kj}{f:bx}(b:Mb K c x q st f)(ps:List Str)(h:∀kV dc pm an cd ct,∀us:List bh,us.length=ps.length->zj (qx x q (dB st) (bU st) (aW st) .none kV dc pm an cd ct) ⟨us,[]⟩=pure (ps.zip us)):∃d,Fun K x q st f d/\Binds K d ps []/\qg K (.ref c) x=aj (aj (.ref f))/\PySem.W.isFn K (.ref f)=ak/\tu K (.ref f)=ak:=by
 obtain⟨d,F,B,k⟩:=b.2.2.get ps h;exact⟨d,F,B,b.1,b.2.1,k⟩
structure Eb(K:Fg)(x:Str)(c:bx):Prop where
 b:mq K ji x=aj (aj (.ref c))
 x:yt K c [.type "ValueError",.type "Exception",.type "BaseException",.type "object"] "ValueError.__new__"=ak
 cs:(vf K c).isSome=ak
 ty:a0p K (.ref c)=aj (.type "type")
 be:uf K (.ref c) (.type "BaseException")=aj ak
variable{h:jj}
theorem Eb.gt{K:Fg}(e:Eb K x c)(XK:K.In h)(GG:h.Ns ji mg):ExT K mg x c:=⟨a0k XK GG e.b,e.x,e.cs,e.ty,e.be⟩
variable{l:PySem.W.OpenLaw}
theorem all_mk{w:iy}{K:Fg}{fa:bx}(XK:K.In h)(GG:h.Ns ji mg)(hfa:mg "law"=aj (.ref fa))
  (a2G:(tabIn K "errand").isSome=ak)
  (aaX:K.lookup (uF K "errand").2=aq)
  (iV:Fb K "is_whole" a6V ahY)
  (jY:Fb K "is_pair" aaM amQ)
  (n8:Fb K "is_plan" aaN amR)
  (cJ:Fb K "need_plan" a2X ag3)
  (rC:Fb K "is_bin" af4 at4)
  (nA:Fb K "is_spot" aaO amS)
  (aaW:Fb K "far" aAA aL8)
  (jZ:Fb K "need_bin" a6W ahZ)
  (cN:Fb K "places_by_aisle" oU a0Z)
  (iW:Fb K "farthest" a6X ai0)
  (dW:Fb K "steps_within" v9 a7X)
  (fH:Fb K "ways_behind" xT a99)
  (d7:Fb K "shortest_ends" tR a3Z)
  (dX:Fb K "spots_within" vA a7Y)
  (xB:Fb K "go_to" ajT ayV)
  (kJ:Fb K "spots_by" a6Y ai1)
  (yQ:Fb K "walk" arR aFX)
  (rD:Fb K "length" af5 at5)
  (d8:Fb K "spots_between" tU a4A)
  (sZ:Fb K "stops" ajU ayW)
  (o9:Fb K "errand" f9 at6)
  (cV:Fb K "_law_cell_at" vB a7Z)
  (eV:Fb K "_law_whole" a09 acR)
  (cW:Fb K "_law_strange" vC a80)
  (dY:Fb K "_law_plan_by" vD a81)
  (dZ:Fb K "_law_is_plan" vG a82)
  (fJ:Fb K "_law_is_bin" xU a9A)
  (gH:Fb K "_law_wrong" a0A acS)
  (j5:Fb K "_law_told" a2Y ag4)
  (a73:mq K ji "law"=aj (aj (.ref at7)))
  (at8:K.lookup at7=aj ⟨aP6,aP7,.func (qx "law" "law" (dB af6) (bU af6) (aW af6) .none aP8 aP9 aPA aPB aFY aPC),aPD⟩)
  (afP:a1z K aFY "law"=ak)
  (at9:tu K (.ref at7)=ak)
  (jN:Eb K "DepotError" tE)
  (lN:Eb K "NoPlan" cY)
  (a2H:qg K (.ref cY) "__getattribute__"=aj (aj (.builtin "BaseException.__getattribute__")))
  (a2I:qg K (.ref cY) "__getattr__"=aj aq)
  (a2J:qg K (.ref cY) "__class__"=aj (aj (.builtin "object.__class__")))
  (a2K:PySem.W.mroIn K cY (.type "object")=aj ak)
  (rE:iu K (.ref cY) (.type "ValueError")=aj ak)
  (vZ:Eb K "NoName" a83)
  (mY:Eb K "NoBin" eY)
  (a84:qg K (.ref eY) "__getattribute__"=aj (aj (.builtin "BaseException.__getattribute__")))
  (a85:qg K (.ref eY) "__getattr__"=aj aq)
  (a86:qg K (.ref eY) "__class__"=aj (aj (.builtin "object.__class__")))
  (a87:PySem.W.mroIn K eY (.type "object")=aj ak)
  (w5:iu K (.ref eY) (.type "ValueError")=aj ak)
  (a0R:Eb K "NoLot" acT)
  (oA:Eb K "NoAmount" yW)
  (a0S:Eb K "NoRow" acU)
  (cR:uf K (.ref cY) (.ref tE)=aj ak)
  (dG:iu K (.ref cY) (.ref yW)=aj ao)
  (fX:iu K (.ref cY) (.ref eY)=aj ao)
  (fY:iu K (.ref cY) (.ref acT)=aj ao)
  (fB:iu K (.ref cY) (.ref a83)=aj ao)
  (fC:iu K (.ref cY) (.ref cY)=aj ak)
  (fZ:iu K (.ref cY) (.ref acU)=aj ao)
  (cX:uf K (.ref eY) (.ref tE)=aj ak)
  (eF:iu K (.ref eY) (.ref yW)=aj ao)
  (iD:iu K (.ref eY) (.ref eY)=aj ak)
  (iG:iu K (.ref eY) (.ref acT)=aj ao)
  (gA:iu K (.ref eY) (.ref a83)=aj ao)
  (gB:iu K (.ref eY) (.ref cY)=aj ao)
  (iH:iu K (.ref eY) (.ref acU)=aj ao)
  (iI:mq K ji "MOST_AISLES"=aj (aj (.int 26 a9B)))
  (iJ:mq K ji "MOST_PLACES"=aj (aj (.int 99 a9C)))
  (oE:mq K ji "MOST_GAP"=aj (aj (.int 20 ai2)))
  (a7P:mq K ji "DOOR"=aj (aj (.ref atA)))
  (acV:K.lookup atA=aj ⟨.type "tuple",aq,.seq #[(.int 0 ayX),(.int 0 ayY)] aM9,aMA⟩)
  (tG:mq K ji "ValueError"=aj aq)
  (atB:mq K ji "abs"=aj aq)
  (ai3:mq K ji "bool"=aj aq)
  (ai4:mq K ji "dict"=aj aq)
  (wC:mq K ji "enumerate"=aj aq)
  (atD:mq K ji "int"=aj aq)
  (tH:mq K ji "isinstance"=aj aq)
  (atE:mq K ji "len"=aj aq)
  (ai5:mq K ji "list"=aj aq)
  (atF:mq K ji "max"=aj aq)
  (atG:mq K ji "min"=aj aq)
  (acW:mq K ji "range"=aj aq)
  (a88:mq K ji "sorted"=aj aq)
  (atH:mq K ji "sum"=aj aq)
  (acX:mq K ji "tuple"=aj aq)
  (atJ:mq K ji "zip"=aj aq) :
  ∃fd:ju,(∀(s:cj)(v:bh),BindsTo s fd ⟨[v],[]⟩ [("_law_script",v)])/\∀base:jj,K.In base->base.Ns ji mg->base.BuiltinsAt mg (uF K "errand").2->CodeHd base (uF K "errand").1 (uF K "errand").2->bY ao l.prog w K mg base (gZ l.prog w) 9 fa fd ["_law_script"] (akF K (uF K "errand").2):=by
 have e:=hfa.symm.trans (a0k XK GG a73);cases e;obtain⟨sG,ai6⟩:=iV.get XK GG ["thing","least","most"] (ahX λ_ _ _ _ _ _ _ _ _=>rfl);obtain⟨wW,amT⟩:=jY.get XK GG ["thing","aisles","first","last"] (aFW λ_ _ _ _ _ _ _ _ _ _=>rfl);obtain⟨wX,amU⟩:=n8.get XK GG ["thing"] (len1 λ_ _ _ _ _ _ _=>rfl);obtain⟨oV,ag5⟩:=cJ.get XK GG ["plan"] (len1 λ_ _ _ _ _ _ _=>rfl);obtain⟨a0B,atL⟩:=rC.get XK GG ["plan","thing"] (len2 λ_ _ _ _ _ _ _ _=>rfl);obtain⟨wY,amV⟩:=nA.get XK GG ["plan","thing"] (len2 λ_ _ _ _ _ _ _ _=>rfl);obtain⟨ajV,aL9⟩:=aaW.get XK GG ["plan","one","other"] (ahX λ_ _ _ _ _ _ _ _ _=>rfl);obtain⟨sH,ai7⟩:=jZ.get XK GG ["plan","thing"] (len2 λ_ _ _ _ _ _ _ _=>rfl);obtain⟨fQ,a1A⟩:=cN.get XK GG ["bins"] (len1 λ_ _ _ _ _ _ _=>rfl);obtain⟨sI,ai8⟩:=iW.get XK GG ["places","end"] (len2 λ_ _ _ _ _ _ _ _=>rfl);obtain⟨j9,a89⟩:=dW.get XK GG ["plan","places","end","goal"] (aFW λ_ _ _ _ _ _ _ _ _ _=>rfl);obtain⟨lC,a9D⟩:=fH.get XK GG ["plan","places","ways"] (ahX λ_ _ _ _ _ _ _ _ _=>rfl);obtain⟨iK,a4B⟩:=d7.get XK GG ["plan","aisles"] (len2 λ_ _ _ _ _ _ _ _=>rfl);obtain⟨jA,a8A⟩:=dX.get XK GG ["aisle","places","end","goal"] (aFW λ_ _ _ _ _ _ _ _ _ _=>rfl);obtain⟨a4S,ayZ⟩:=xB.get XK GG ["spots","spot"] (len2 λ_ _ _ _ _ _ _ _=>rfl);obtain⟨sJ,ai9⟩:=kJ.get XK GG ["aisles","ends"] (len2 λ_ _ _ _ _ _ _ _=>rfl);obtain⟨acD,aFZ⟩:=yQ.get XK GG ["plan","bins"] (len2 λ_ _ _ _ _ _ _ _=>rfl);obtain⟨a0C,atM⟩:=rD.get XK GG ["plan","spots"] (len2 λ_ _ _ _ _ _ _ _=>rfl);obtain⟨iM,a4C⟩:=d8.get XK GG ["one","other"] (len2 λ_ _ _ _ _ _ _ _=>rfl);obtain⟨a4T,az0⟩:=sZ.get XK GG ["plan","spots","bins"] (ahX λ_ _ _ _ _ _ _ _ _=>rfl);obtain⟨vJ,ag6⟩:=o9.get XK GG ["plan","rows"] (len2 λ_ _ _ _ _ _ _ _=>rfl);obtain⟨jB,a8B⟩:=cV.get XK GG ["_law_script","_law_k"] (len2 λ_ _ _ _ _ _ _ _=>rfl);obtain⟨mR,acY⟩:=eV.get XK GG ["_law_found"] (len1 λ_ _ _ _ _ _ _=>rfl);obtain⟨jC,a8C⟩:=cW.get XK GG ["_law_cell","_law_low","_law_high"] (ahX λ_ _ _ _ _ _ _ _ _=>rfl);obtain⟨jD,a8D⟩:=dY.get XK GG ["_law_script"] (len1 λ_ _ _ _ _ _ _=>rfl);obtain⟨jE,a8E⟩:=dZ.get XK GG ["_law_plan"] (len1 λ_ _ _ _ _ _ _=>rfl);obtain⟨lD,a9E⟩:=fJ.get XK GG ["_law_plan","_law_thing"] (len2 λ_ _ _ _ _ _ _ _=>rfl);obtain⟨mU,acZ⟩:=gH.get XK GG ["_law_cell","_law_aisles","_law_places"] (ahX λ_ _ _ _ _ _ _ _ _=>rfl);obtain⟨oX,ag7⟩:=j5.get XK GG ["_law_which","_law_plan","_law_bins"] (ahX λ_ _ _ _ _ _ _ _ _=>rfl);have Z:=λ{x:Str}(h:mq K ji x=aj aq)=>PySem.W.mg_none_of XK GG h;have T:Txt K mg ⟨ahY,sG,amQ,wW,amR,wX,ag3,oV,at4,a0B,amS,wY,aL8,ajV,ahZ,sH,a0Z,fQ,ai0,sI,a7X,j9,a99,lC,a3Z,iK,a7Y,jA,ayV,a4S,ai1,sJ,aFX,acD,at5,a0C,a4A,iM,ayW,a4T,at6,vJ,a7Z,jB,acR,mR,a80,jC,a81,jD,a82,jE,a9A,lD,acS,mU,ag4,oX,at7,_,tE,cY,a83,eY,acT,yW,acU,(uF K "errand").2,(uF K "errand").1⟩:=⟨aqT ag6.F (ajK a2G) o9.1,ai6,amT,amU,ag5,atL,amV,aL9,ai7,a1A,ai8,a89,a9D,a4B,a8A,ayZ,ai9,aFZ,atM,a4C,az0,ag6,a8B,acY,a8C,a8D,a8E,a9E,acZ,ag7,⟨ao1 (st:=af6) at8 afP at9,ajL (ps:=["_law_script"]) (λus hl=>match us,hl with|[_],_=>rfl),a0k XK GG a73⟩,jN.gt XK GG,lN.gt XK GG,⟨a2H,a2I,a2J,lN.be,a2K,lN.cs⟩,rE,vZ.gt XK GG,mY.gt XK GG,⟨a84,a85,a86,mY.be,a87,mY.cs⟩,w5,a0R.gt XK GG,oA.gt XK GG,a0S.gt XK GG,cR,dG,fX,fY,fB,fC,fZ,cX,eF,iD,iG,gA,gB,iH,⟨a9B,a0k XK GG iI⟩,⟨a9C,a0k XK GG iJ⟩,⟨ai2,a0k XK GG oE⟩,⟨atA,a0k XK GG a7P,aEC (xs:=[.int 0,.int 0]) acV (show 2<=dg by decide) (.cons ⟨ayX,rfl⟩ (.cons ⟨ayY,rfl⟩ .nil)) λ_=>(.cons (.int _) (.cons (.int _) .nil))⟩,Z tG,Z atB,Z ai3,Z ai4,Z wC,Z atD,Z tH,Z atE,Z ai5,Z atF,Z atG,Z acW,Z a88,Z atH,Z acX,Z atJ⟩;exact⟨_,λs v=>.of_eq rfl,λbase _ _ h1 h2=>(aFV T ⟨h1,h2⟩).imp (ayU T)⟩
theorem walk{d:DefRec}{K:Params->ig}(hn:l.most=aj 63)(hdf:d.params.defaults=[])
  (hY:∀(w:iy)(h:jj),YP w h->(K w.params).In h)(hdm:((recsOf q).find? (λe=>e.name==("errand":Str))).isSome=ak)(hT:∀w:iy,(tabIn (K w.params) "errand").isSome=ak)(hKT:∀w:iy,(K w.params).lookup (uF (K w.params) "errand").2=aq)
  (F:∀(w:iy)(mg:Str->Option bh)(fa:bx)(h:jj),(K w.params).In h->h.Ns ji mg->mg d.name=aj (.ref fa) ->
   ∃fd:ju,(∀(s:cj)(u:bh),BindsTo s fd ⟨[u],[]⟩ [("_law_script",u)])/\∀base:jj,(K w.params).In base->base.Ns ji mg->base.BuiltinsAt mg (uF (K w.params) "errand").2->CodeHd base (uF (K w.params) "errand").1 (uF (K w.params) "errand").2->bY ao l.prog w (K w.params) mg base (gZ l.prog w) 9 fa fd ["_law_script"] (akF (K w.params) (uF (K w.params) "errand").2)) :
  PySem.W.WalkO q loose XP YP l.row.toRowW d [] (λf vs=>PySem.call f vs):=by
 obtain⟨dm,hdm⟩:=a0q.mp hdm;exact L2.aqV (n:=63) (k:=9) (x:="_law_script") (CX:=λw=>gZ l.prog w) (T:=λw=>(uF (K w.params) "errand").2) (cC:=λw=>(uF (K w.params) "errand").1) (sp:=λw=>akF (K w.params) (uF (K w.params) "errand").2) hn (by decide) hdf ⟨λ_=>rfl,by decide,by decide⟩ hY hdm (λw=>ajK (hT w)) hKT F (λw _ a ns hl hO hS=>⟨a,ns,rfl,hS,hl,hKT w,hO.1,λ_=>rfl⟩) (by rintro _ _ _ _ _ ⟨_,_,_,_,_,_,_,_,_,_,_,_,z⟩;exact z)
end Law
open PySem PySem.W PyProof.Rows
set_option tactic.hygienic true in
theorem PySem.Challenge.cw_depot_k76_no_plan_no_bin_holds : PySem.Challenge.rw_depot_k76_no_plan_no_bin.Holds := by
 w_on;o_law;o_head (PySem.W.kHook Law.frK.heap_39 Law.frA Law.frE)
 case hl=>exact Law.frL
 case hw=>w_witness2
 k_fill
 refine Law.walk (l:=PySem.Challenge.rw_depot_k76_no_plan_no_bin) rfl rfl (λw h Y=>PySem.W.kIn_of Y) (by kernel_rfl) (λw=>by kernel_rfl) (λw=>by kernel_rfl) ?F
 case F =>
  intro w mg fa h KX G hmg;refine' Law.all_mk KX G hmg ?a2G ?aaX ?iV ?jY ?n8 ?cJ ?rC ?nA ?aaW ?jZ ?cN ?iW ?dW ?fH ?d7 ?dX ?xB ?kJ ?yQ ?rD ?d8 ?sZ ?o9 ?cV ?eV ?cW ?dY ?dZ ?fJ ?gH ?j5 ?a73 ?at8 ?afP ?at9 ?jN ?lN ?a2H ?a2I ?a2J ?a2K ?rE ?vZ ?mY ?a84 ?a85 ?a86 ?a87 ?w5 ?a0R ?oA ?a0S ?cR ?dG ?fX ?fY ?fB ?fC ?fZ ?cX ?eF ?iD ?iG ?gA ?gB ?iH ?iI ?iJ ?oE ?a7P ?acV ?tG ?atB ?ai3 ?ai4 ?wC ?atD ?tH ?atE ?ai5 ?atF ?atG ?acW ?a88 ?atH ?acX ?atJ
  case a2G|aaX=>kernel_rfl
  case iV|jY|n8|cJ|rC|nA|aaW|jZ|cN|iW|dW|fH|d7|dX|xB|kJ|yQ|rD|d8|sZ|o9|cV|eV|cW|dY|dZ|fJ|gH|j5=>exact⟨by k_is,_,_,_,_,_,_,_,_,_,by k_is,by k_is,by k_is⟩
  case jN|lN|vZ|mY|a0R|oA|a0S=>exact⟨by k_is,by k_exc,by kernel_rfl,by k_is,by k_is⟩
  case a73|at8|afP|at9|a2H|a2I|a2J|a2K|a84|a85|a86|a87|cR|cX|iI|iJ|oE|a7P|acV|tG|atB|ai3|ai4|wC|atD|tH|atE|ai5|atF|atG|acW|a88|atH|acX|atJ=>k_is
  case rE|w5|dG|fX|fY|fB|fC|fZ|eF|iD|iG|gA|gB|iH=>kit_is
