import PyProof.Rows.All
import Wide.All
import OpenK.KLine
import OpenK.KOwn
import Wide.FinOn
import Lean
import PyProof.EqAt
import PyProof.EqKinds
import PyProof.TupleCall
import KE.KMinKey
import KE.KSortTup
import KE.KRevSl
import KE.KStateDown
import PyProof.Rows.Range3
import KE.KDictOf
import PyProof.AttrMissSeq
import KE.KRevIter
import KE.KItemsList
import KE.KPairComp
import KE.KEqDict
import KE.KDictSum
import KE.RegKIsAll
import KE.KNest
import KE.KClos
import PyProof.Draws
import PyProof.EnumMake
import PySem.Challenge.RW_depot_k25_what_is_told_is_ones_own
set_option Elab.async false
set_option linter.all false
set_option maxRecDepth 100000
set_option maxHeartbeats 4000000
set_option compiler.extract_closed false
open Option renaming some->aj,none->bh,some->iz,isSome_iff_exists->a0r,map_eq_some_iff->a1b,none->a1d,isSome_map->a2c
open Bool renaming true->ak,false->ao,and_eq_true->bx,not_eq_true'->iu,false_ne_true->oh,false_eq_true->ou,not_true->a0x,eq_iff_iff->a2n,or_eq_true->a2p,and_false->a2y,false_xor->a2z
open PySem renaming Value->aq,wpAny_bind->au,Addr->bw,wpAny_pure->cj,sizeLine->cu,wpAny->dg,Shared->dh,model->fj,compareOp->jd,World->jf,starEach->jg,Heap->jj,Expr->jk,cLine->jl,Program->jo,Around->jr,mainGlobals->ju,FuncData->kh,bootBuiltins->ni,sysModules->nj,wpAny_holding->qb,wpAny_mono->qm,Stmt->qp,CmpOp->qx,backTo->rm,bindArgs->tu,attributeBase->uh,wpAny_truthy_bool->uo,behindInMarks->uw,wpAny_field->vg,NameKind->vm,wpAny_dictEntries->vq,wpAny_Call_Name_kw->wg,wpAny_call_entry->wj,binaryOp->wu,tupleKind_room_in1->yd,wpAny_setField->yh,DictEntry->yj,Scope->yp,wpAny_rule->zc,wpAny_newObj_type->zj,wpAny_typeNameOfWhole_keyiter->zu,wpAny_Call_method0_late->zx,keywordEach->a0b,pyNext->a0c,tupleKind->a0d,wpAny_passesOwn->a0f,storedH->a0i,Keyword->a0j,ExcBaseFacts->a0s,wpAny_typeNameOf_keyiter->a0t,codeAny->a0u,codeAny_builtin->a0y,swapsWith->a0z,assignEach->a1a,foldedSetIterable->a1h,rawInt->a1k,wpAny_seqItems->a1l,sliceBounds->a1s,letOwnedTupleGo->a1t,PassesOwn->a1y,wpAny_callSpecial?_slot->a2a,wpAny_pyIter_list->a2d
open PySem.Heap renaming get?_push_of_some->cg,lt_size->gw,get?_push_size->ig,SameBut->jz,get?_update_self->a1j,ExtBut->a2e,MadeExcOf->a2v,size_push->a2w
open List renaming length_map->dj,mem_map->dw,size_toArray->gk,getElem?_eq_getElem->gV,map_cons->iy,mem_cons->je,getElem?_eq_some_iff->ji,mem_cons_of_mem->jq,map_map->jt,range->jw,mem_of_getElem?->jx,all_eq_true->jy,length_cons->lg,map_append->mz,mem_append_right->qd,mem_singleton->qe,mem_filter->qu,nodup_cons->qy,getD->qz,mem_cons_self->su,length_append->uc,lookup_cons->ud,mem_append->ug,map_congr_left->um,nodup_append->uq,getElem?_set_ne->vf,getElem?_map->vp,getElem_mem->wz,mem_range->xg,lookup->xq,pairwise_iff_getElem->yc,getElem?_append_right->yq,all_cons->yt,filter_cons->yw,length_filter_le->yx,pairwise_map->zp,getElem?_cons_zero->zy,take_length->a0a,append_nil->a0g,find?_cons->a0h,mem_append_left->a0n,getElem?_append_left->a0o,replicate->a0p,nodup_nil->a0q,any_cons->a0v,length->a1c,getElem?_eq_none->a1n,take_succ->a1o,length_take->a1q,Pairwise->a1r,drop_eq_getElem_cons->a1w,foldl_cons->a1x,mem_filterMap->a1z,getElem?_set_self->a2f,cons_append->a2h,length_nil->a2l,map_nil->a2m,filter_map->a2q,filterMap_cons->a2r,filter_sublist->a2u
open Nat renaming le_refl->dz,ne_of_lt->jc,lt_of_lt_of_le->jm,le_trans->qj,lt_irrefl->ur,le_of_lt->ux,zero_le->vh,lt_of_le_of_lt->za,lt_trichotomy->zm,ne_of_gt->a0e,le_succ->a1e,lt_succ_of_lt->a1g,le_succ_of_le->a1i,le_of_eq->a1U,min_eq_left->a2o
open PySem.W renaming Frag->iw,findIn->qg,fnOf->ql,nsIn->qw,keepIn->uf,emptyDict->xr,kia_one->xu,excIn->yg,mg_of->yu,instObj->zf,clsIn->zq,kitOne->a06,codeIn->a1m,plainGet->a1p,isFn->a1T,typeIn->a1V,hasDictIn->a2b,subIn->a2g,Hook->a2i,hideAll->a2j,plainGet_of->a2s,callWith_K0->a2t,lookIn->a2x,callWith_K->a3a
open PyProof.Rows renaming seqObj->kj,IntsAre->a0w,get?_update_seq->a1u
open Array renaming length_toList->vo,getElem?_toList->a0k,getElem?_eq_some_iff->a0l,getElem?_eq_getElem->a1v,mem_toList_iff->a2k
open Int renaming toNat_natCast->a0m,le_refl->a1f
namespace Law
open PySem PySem.W PyProof.Rows
noncomputable def frT(n:Nat):qp:=PySem.Challenge.pw_depot_k25_what_is_told_is_ones_own.main.body.getD n (.Pass ⟨0,0,0,0⟩)
noncomputable def frQ:jo:={PySem.Challenge.pw_depot_k25_what_is_told_is_ones_own with main:={PySem.Challenge.pw_depot_k25_what_is_told_is_ones_own.main with body:=[frT 0,frT 2,frT 3,frT 4,frT 5,frT 6,frT 7,frT 8,frT 10,frT 11,frT 12,frT 13,frT 14,frT 15,frT 17,frT 18,frT 19,frT 20,frT 22,frT 23,frT 24,frT 26,frT 27,frT 28,frT 29,frT 31,frT 32,frT 33,frT 34,frT 35]}}
theorem frB{p:jo}{α:Type}{Yf:dh->α}{Ya:jf->α}{N:Nat}{g0:Bool}
  (e:opening p=plainProg p.main.scope.names)(hN:Nat.ble 600 N=ak)(f:∀s,fenceModules? p s=aj s)
  (h:∀(w:jf)(os:OsState),(topFrom treeTable p w N ⟨boot_heap w.params,#[],boot_drawn,boot_toks,os⟩).map (λs=>(openSeen q loose (importedModules p.main.body) Xt g0 s,Yf s))=aj (openGood q loose,Ya w)) :
  LeftO p q loose Xt Yf Ya N g0:=λw=>by
 obtain⟨⟨h1,gs,d,k,os⟩,e1,e'⟩:=a1b.mp (boot_open e hN f w);obtain⟨rfl,rfl,rfl,rfl⟩:h1=boot_heap w.params/\gs=#[]/\d=boot_drawn/\k=boot_toks:=by simpa using e'
 unfold openEnds;rw[e1];exact h w os
noncomputable abbrev frX:dh->Bool:=λs=>xlAt frQ [] s&&recOk (RowW.records (OpenRow.toRowW (OpenLaw.row PySem.Challenge.rw_depot_k25_what_is_told_is_ones_own))) s
end Law
local macro_rules
 | `(tactic| o_head $H)=>`(tactic| refine PySem.W.holds_open (q:=Law.frQ) (loose:=[]) (Xt:=Law.frX) (XP:=PySem.W.XL Law.frQ []) (Yf:=a2i.obs $H) (Ya:=a2i.val $H)
     (YP:=a2i.says $H) (N:=5368) ?hl (a2i.of $H) (a2i.keeps $H) (λs e=>PySem.W.xl_of s (Bool.and_eq_true_iff.mp e).1) PySem.W.XL.keeps (by rfl) (by rfl) (by rfl)
     (λs e=>PySem.W.recFacts_of (Bool.and_eq_true_iff.mp e).2) (by rfl) (by first|assumption|decide+kernel) (by decide+kernel) ⟨rfl,rfl,rfl,rfl,rfl,by decide+kernel⟩ ?hw ?hc)
open PySem PySem.W in
theorem Law.frW:OpenLaw.wellSaid PySem.Challenge.rw_depot_k25_what_is_told_is_ones_own=ak:=by kernel_rfl
open PySem PySem.W in
theorem Law.frK(h0:∀{α:Type}(Yf:dh->α)(Ya:jf->α),LeftO (OpenLaw.row PySem.Challenge.rw_depot_k25_what_is_told_is_ones_own).prog Law.frQ [] Law.frX Yf Ya 5368)
  (h1:∀YP d,WalkO Law.frQ [] (XL Law.frQ []) YP (OpenRow.toRowW (OpenLaw.row PySem.Challenge.rw_depot_k25_what_is_told_is_ones_own)) d [] (λf vs=>PySem.call f vs)):OpenLaw.Holds PySem.Challenge.rw_depot_k25_what_is_told_is_ones_own:=by
 w_on;refine PySem.W.holds_law Law.frW λsaid=>?_;k_head
 case hl=>exact h0 _ _
 case hw=>w_witness2
 exact h1 _ _
noncomputable abbrev Law.frA:List Nat:=[2,3,15,17,18,20,21,22,29,30,31,32,35,42,43,44,47,54,55,56,59,66,67,68,71,78,79,80,83,90,91,92,95,102,103,104,107,109,110,112,113,114,116,117,119,120,121,123,124,126,127,128,130,131,133,134,135,137,138,140,141,142,144,145,147,148,149,151,152,154,155,156,158,159,161,162,163,165,166,168,169,170,172,173,175,176,177,179,180,182,183,191,192,194,195,197,198,199,201,202,204,205,206,208,209,211,212,213,215,216,218,219,220,222,223,225,226,227,229,230,232,233,234,236,237,239,240,241,244,245,246,248,249,251,252,253,255,256,258,259,260,262,263,265,266,267,268,269,270,271,274,276,277,279,280,281,283,284,286,287,288,291,292,293,296,297,298,301,302]
theorem Law.frE:∀P,Law.frA=(Law.frK.heap_1 P).map (·.1):=λ_=>by kernel_rfl
open PySem PySem.W in
theorem Law.frL:LeftO (OpenLaw.row PySem.Challenge.rw_depot_k25_what_is_told_is_ones_own).prog Law.frQ [] Law.frX (Hook.obs (kHook Law.frK.heap_1 Law.frA Law.frE)) (Hook.val (kHook Law.frK.heap_1 Law.frA Law.frE)) 5368 :=
 Law.frB (by kernel_rfl) (by kernel_rfl) (λs=>by kernel_rfl) (λw os=>by kernel_rfl)
local macro_rules|`(tactic|omega)=>`(tactic|first|lia|omega (config := {}))
set_option tactic.hygienic false
namespace L2
open PySem PySem.Spec PyProof.Rows
variable{a b:bw}{o:Obj}{x:Str}
section
structure Tr(B:jj)(x:bw)(C fl:aq)(h:jj):Prop where
 ex:∃(o:Obj)(vs:Array aq)(T:bw)(oT:Obj)(ts:Array aq),h.get? x=aj o/\o.cls=C/\o.data=.fields vs/\vs[1]?=aj (.ref T)/\vs[2]?=aj .none/\B.get? T=bh/\T≠x/\h.get? T=aj oT/\oT.data=.fields ts/\ts[3]?=aj fl
structure abA(B:jj)(l:List Env)(x:bw)(C fl:aq)(h:jj):Prop where
 stays:B.StaysIn h
 new:B.get? x=bh
 aL1:h.FunFrames B l
 tr:Tr B x C fl h
abbrev Fly(B:jj)(l:List Env)(x:bw)(C:aq)(h:jj):Prop:=abA B l x C .none h
variable{i:Nat}{v:aq}
section
variable{A:jr}{s:dh}{B:jj}{env:Env}{outer:List Env}{x:bw}{fl:aq}
theorem abA.fld{h:jj}(f:abA B l x C fl h):∃o vs,h.get? x=aj o/\o.cls=C/\o.data=.fields vs/\vs[2]?=aj .none:=by
 obtain⟨o,vs,_,_,_,h1,h2,h3,_,h5,_⟩:=f.tr.ex;exact⟨o,vs,h1,h2,h3,h5⟩
theorem nM{h:jj}{vs:Array aq}(e:h.get? a=aj o)(d:o.data=.fields vs) :
  (h.update a (Obj.mapFields (·.setIfInBounds i v))).get? a=aj (Obj.mapFields (·.setIfInBounds i v) o)/\(Obj.mapFields (·.setIfInBounds i v) o).data=.fields (vs.setIfInBounds i v)/\(Obj.mapFields (·.setIfInBounds i v) o).cls=o.cls /\
  (∀b,b≠a->(h.update a (Obj.mapFields (·.setIfInBounds i v))).get? b=h.get? b):=by
 have d':=Obj.data_mapFields d (·.setIfInBounds i v);exact⟨a1j _ e (Obj.isFreed_of_fields d'),d',Obj.cls_mapFields _ _,λb hb=>Heap.get?_update_other _ _ (Ne.symm hb)⟩
theorem wZ{h:jj}{u:Obj}(e:h.get? a=aj o)(d:o.data=.fields vs)(e2:h.get? b=aj u)(n:∀ws,u.data≠.fields ws):b≠a:=λq=>by
 subst q;rw[e]at e2;cases e2;exact n vs d
theorem aj8(f:abA B l x C fl s.heap)(h:∀h',Fly B l x C h'->s.heap.UpToSlots h'->Q () {s with heap:=h' }):dg M A (setFlight (.ref x) bh) Q E s:=by
 obtain⟨st,nw,fu,⟨o,vs,T,oT,ts,e1,e2,e3,e4,e5,e6,e7,e8,e9,e10⟩⟩:=f;unfold setFlight;refine au (vg e1 e3 e4 ?_);rw[if_pos (by simp)];have l3:3<ts.size:=(a0l.mp e10).1;obtain⟨u1,u2,u3,u4⟩:=nM (i:=3) (v:=(bh:Option bw).elim aq.none λf=>a1k f) e8 e9;refine yh e8 e9 l3 (h _ ⟨λb u q=>?_,nw,fu.of_keeps λb u q n=>⟨u,(u4 b (wZ e8 e9 q n)).trans q,rfl⟩,⟨o,vs,T,_,_,(u4 x (Ne.symm e7)).trans e1,e2,e3,e4,e5,e6,e7,u1,u2,?_⟩⟩ λb u q n=>⟨u.slots,(u4 b (wZ e8 e9 q n)).trans q⟩)
 .exact(u4 b λz=>by subst z;rw[e6]at q;cases q).trans (st b u q)
 .simp[l3]
theorem adI{hadNext:Bool}{vs:Array aq}(hfr:A.frames=aj (env::outer))(hf:env.frame=aj L)(st:B.StaysIn s.heap)(nw:B.get? x=bh)(fu:s.heap.FunFrames B (env::outer))(e1:s.heap.get? x=aj o)(e2:o.cls=C)(e3:o.data=.fields vs)(e4:1<vs.size)(e5:vs[2]?=aj .none)
  (h:∀h',abA B (env::outer) x C (a1k L) h'->s.heap.UpToSlots h'->Q () {s with heap:=h' }) :
  dg M A (do let a ←frameOf env;let pl ←entryPlaceOf L hadNext;let b ←EntryCells.newEntry head a .none (a1k L) .none pl;setField (.ref x) 1 b) Q E s:=by
 have nf:x∉(env::outer).filterMap (·.frame):=λm=>by
  obtain⟨_,u,hu,hn⟩:=fu.mem m;rw[e1]at hu;cases hu;exact hn vs e3
 refine au (wpAny_frameOf_fun hfr fu hf λk so=>au (wpAny_entryPlaceOf λpl hpl=>?_));unfold EntryCells.newEntry newFields;refine au (zj ?_ (hpl.sizeOk5 _ _ _ _ _));have k1:k.get? x=aj o:=(so.2.1 x nf).trans e1;have tne:k.objs.size≠x:=λz=>absurd (gw k1) (by rw[z];exact ur _);have kB:∀b u,B.get? b=aj u->k.get? b=aj u:=λb u q=>(so.2.1 b λm=>by rw[(fu.mem m).1]at q;cases q).trans (st b u q);generalize hT:({cls:=.type "traceback",dict:=none,data:=.fields ([head,.ref L,.none,a1k L,.none]++(if pl.isEmpty then a0p 6 aq.none else pl)).toArray}:Obj)=oT;have p1:(k.push oT).get? x=aj o:=cg _ k1;obtain⟨u1,u2,u3,u4⟩:=nM (i:=1) (v:=.ref k.objs.size) p1 e3;have keep:∀b u,b≠x->k.get? b=aj u->((k.push oT).update x (Obj.mapFields (·.setIfInBounds 1 (.ref k.objs.size)))).get? b=aj u:=λb u n q=>(u4 b n).trans (cg _ q)
 have pT:(k.push oT).get? k.objs.size=aj oT:=by
  subst hT;exact ig k rfl
 refine yh p1 e3 e4 (h _ ⟨λb u q=>keep b u (λz=>by subst z;rw[nw]at q;cases q) (kB b u q),nw,fu.of_keeps λb u q n=>?_,⟨_,_,k.objs.size,oT,_,u1,u3.trans e2,u2,?_,?_,?_,tne,(u4 _ tne).trans pT,by rw[←hT],?_⟩⟩ λb u q n=>?_)
 .obtain⟨sl,z⟩:=so.2.2 b u q;exact⟨_,keep b _ (wZ e1 e3 q n) z,rfl⟩
 .simp[e4]
 .rw[Array.getElem?_setIfInBounds_ne (by decide)];exact e5
 .cases q:B.get? k.objs.size with
  |none=>rfl
  |some u=>exact absurd (gw (kB _ u q)) (ur _)
 .first|(simp;done)|(rcases hpl with rfl|⟨_,_,_,_,_,_,_,rfl⟩<;>simp)
 .obtain⟨sl,z⟩:=so.2.2 b u q;exact⟨sl,keep b _ (wZ e1 e3 q n) z⟩
theorem atF(hfr:A.frames=aj (env::outer))(hf:env.frame=aj L)(f:Fly B (env::outer) x C s.heap)(h:∀h',abA B (env::outer) x C (a1k L) h'->s.heap.UpToSlots h'->Q () {s with heap:=h' }):dg M A (noteFrame (.ref x) env) Q E s:=by
 obtain⟨st,nw,fu,⟨o,vs,T,oT,ts,e1,e2,e3,e4,e5,e6,e7,e8,e9,e10⟩⟩:=f;unfold noteFrame;simp only[hf];refine au (vg e1 e3 e4 ?_);rw[if_pos (by simp)];refine au (vg e8 e9 e10 ?_);rw[if_neg (by simp[a1k])];have l3:3<ts.size:=(a0l.mp e10).1;obtain⟨u1,u2,u3,u4⟩:=nM (i:=3) (v:=.none) e8 e9;refine au (yh e8 e9 l3 ?_);refine adI hfr hf (λb u q=>(u4 b λz=>by subst z;rw[e6]at q;cases q).trans (st b u q)) nw (fu.of_keeps λb u q n=>⟨u,(u4 b (wZ e8 e9 q n)).trans q,rfl⟩) ((u4 x (Ne.symm e7)).trans e1) e2 e3 (a0l.mp e4).1 e5 λh' f' up=>h h' f' ?_;exact λb u q n=>up b u ((u4 b (wZ e8 e9 q n)).trans q) n
theorem abA.tail{h:jj}(f:abA B (env::outer) x C fl h):abA B outer x C fl h:=by
 obtain⟨st,nw,⟨_,_,fu⟩,tr⟩:=f;exact⟨st,nw,fu,tr⟩
theorem anN(hfr:A.frames=aj (env::outer))(hf:env.frame=aj L)(f:Fly B (env::outer) x C s.heap)(h:∀h',Fly B outer x C h'->s.heap.UpToSlots h'->Q () {s with heap:=h' }):dg M A (leaving env (.ref x)) Q E s:=by
 unfold leaving;refine au (atF hfr hf f λh1 f1 up1=>aj8 f1 λh2 f2 up2=>?_);exact h h2 f2.tail (up1.trans up2)
theorem agW{h0:jj}(hfr:A.frames=aj (env::outer))(hf:env.frame=aj L)(st:B.StaysIn h0)(fu:h0.FunFrames B (env::outer))(hm:a2v h0 s.heap x C us)(h:∀h',Fly B outer x C h'->s.heap.UpToSlots h'->Q () {s with heap:=h' }):dg M A (leaving env (.ref x)) Q E s:=by
 obtain⟨t,e1,_,_⟩:=hm.there;unfold leaving noteFrame;simp only[hf];refine au (au (vg (vs:=#[.ref t,.none,.none,.none,.bool ao,.none]) (i:=1) e1 rfl rfl ?_));rw[if_neg (by simp)]
 have nw:B.get? x=bh:=by
  cases q:B.get? x with
  |none=>rfl
  |some u=>have:=st x u q;rw[hm.new]at this;cases this
 refine adI hfr hf (λb u q=>hm.keeps b u (st b u q)) nw (fu.of_keeps λb u q _=>⟨u,hm.keeps b u q,rfl⟩) e1 rfl rfl (by simp) rfl λh1 f1 up1=>aj8 f1 λh2 f2 up2=>?_;exact h h2 f2.tail (up1.trans up2)
end
def a8U(A:jr)(h:jj):Prop:=A.handled=bh∨∃x o vs,A.handled=aj (.ref x)/\h.get? x=aj o/\o.data=.fields vs/\vs[2]?=aj .none
theorem a8V:entryFor table "proto.unchain"=aj Builtin.«proto.unchain» :=entryFor_of_fast (by kernel_rfl)
section
variable{prog:jo}{w:jf}{A:jr}{E:aq->dh->Prop}{s:dh}
theorem alM{α:Type}{Q:α->dh->Prop}{oa:Obj}{ws:Array aq}(hq:a8U A s.heap)(ea:s.heap.get? a=aj oa)(da:oa.data=.fields ws)(la:2<ws.size)(na:∀x,A.handled=aj (.ref x)->x≠a)
  (h:∀h',(∀b,b≠a->h'.get? b=s.heap.get? b)->(∃o,h'.get? a=aj o/\o.cls=oa.cls)->E (.ref a) {s with heap:=h' }):dg (fj prog w) A (raiseNew (.ref a):Sem α) Q E s:=by
 unfold raiseNew;refine au (wpAny_handled ?_);rcases hq with hn|⟨x,o,vs,hx,ex,dx,vx⟩
 .rw[hn];exact au (cj (wpAny_throw (h s.heap (λ_ _=>rfl) ⟨oa,ea,rfl⟩)))
 .rw[hx];have ne:=na x hx;show dg (fj prog w) _ (if((aq.ref x)!=(aq.ref a))=ak then _ else _) _ _ _;rw[if_pos (by simpa using ne)];refine au (qb (wpAny_runValue (a0y a8V ?_)));show dg (fj prog w) _ (field (.ref x) 2 >>= _) _ _ _;refine au (vg ex dx vx ?_);show dg (fj prog w) _ (if((aq.none:aq)==aq.none)=ak then _ else _) _ _ _;rw[if_pos (by decide)];refine au (cj (cj ?_));obtain⟨u1,u2,u3,u4⟩:=nM (i:=2) (v:=.ref x) ea da;show dg (fj prog w) _ (setField (.ref a) 2 (.ref x) >>= _) _ _ _;exact au (yh ea da la (wpAny_throw (h _ u4 ⟨_,u1,u3⟩)))
theorem o7{α:Type}{Q:α->dh->Prop}(hq:a8U A s.heap)(h:∀a h',(∀b o,s.heap.get? b=aj o->h'.get? b=aj o)->(∃o,h'.get? a=aj o/\o.cls=.type "StopIteration")->E (.ref a) {s with heap:=h' }) :
  dg (fj prog w) A (newExc (.type "StopIteration") [] >>= λe=>(raiseNew e:Sem α)) Q E s:=by
 refine au ?_;unfold newExc newTuple;refine au (zj (au (wpAny_of_eq (a:=Value.none) (by simp only[firstArgMember];rfl) (zj ?_ (by size_fits)))) (by size_fits));generalize hh:s.heap.push {cls:=.type "tuple",data:=.seq ([]:List aq).toArray}=h1;generalize ho:({cls:=.type "StopIteration",data:=.fields (#[.ref s.heap.objs.size,.none,.none,.none,.bool ao,.none]++ownMembersOf (.type "StopIteration") [])}:Obj)=o1;have k1:∀b o,s.heap.get? b=aj o->(h1.push o1).get? b=aj o:=λb o e=>cg _ (hh ▸ cg _ e)
 have ea:(h1.push o1).get? h1.objs.size=aj o1:=by
  subst ho;exact ig h1 rfl
 have old:∀b o,s.heap.get? b=aj o->b≠h1.objs.size:=λb o e z=>by
  have l1:b<h1.objs.size:=by
   rw[←hh,a2w];exact a1g (gw e)
  exact absurd l1 (by rw[z];exact ur _)
 refine alM (ws:=#[.ref s.heap.objs.size,.none,.none,.none,.bool ao,.none]++ownMembersOf (.type "StopIteration") []) ?_ ea (by rw[←ho]) (by simp[ownMembersOf]) (λx hx=>?_) λh' k c=>h h1.objs.size h' (λb o e=>(k b (old b o e)).trans (k1 b o e)) ?_
 .rcases hq with z|⟨x,o,vs,a1,a2,a3⟩
  .exact .inl z
  .exact .inr ⟨x,o,vs,a1,k1 _ _ a2,a3⟩
 .rcases hq with z|⟨x',o,vs,a1,a2,a3⟩
  .rw[z]at hx;cases hx
  .rw[a1]at hx;cases hx;exact old _ _ a2
 .obtain⟨o,e,c⟩:=c;exact⟨o,e,by rw[c,←ho]⟩
theorem rC{T id:String}{b:Builtin}(slot:Slot T (Str.ofString "__next__") id)(entry:entryFor table id=aj b)(hT:s.TypeIs (.ref it) T)(args:argsOk id ⟨[.ref it],[]⟩)
  (hb:dg (fj prog w) A.in1 (b ⟨[.ref it],[]⟩) (λ_ _=>False) (λe s'=>∃a o,e=.ref a/\s'.heap.get? a=aj o/\o.cls=.type "StopIteration"/\Q bh s') s):dg (fj prog w) A (a0c (.ref it)) Q E s:=by
 unfold a0c;refine au (wpAny_attempt (a2a hT slot (wj slot hT entry (qm hb (λ_ _ z=>z.elim) λe s' z=>?_) args)));obtain⟨a,o,rfl,e1,e2,q⟩:=z;exact au (wpAny_isInstance (T:="StopIteration") (b:=true) ⟨o,e1,e2⟩ isSubtype_stop (cj q))
theorem a5G(hq:a8U A s.heap)(e:s.heap.get? it=aj o)(d:o.data=.fields vs)(l:vs[2]?≠aj .none):a8U A (s.heap.update it (Obj.mapFields (·.setIfInBounds i v))):=by
 rcases hq with z|⟨x,ox,ws,a1,a2,a3,a4⟩
 .exact .inl z
 .refine .inr ⟨x,ox,ws,a1,?_,a3,a4⟩
  have ne:x≠it:=λz=>by
   subst z;rw[e]at a2;cases a2;rw[d]at a3;cases a3;exact l a4
  exact((nM e d).2.2.2 x ne).trans a2
theorem alN{items:Array aq}(hq:a8U A s.heap)(hit:s.heap.IsListIter it l i)(hl:s.heap.IsList l items)(hx:items[i]?=bh)
  (h:∀h',a2e it s.heap h'->Q bh {s with heap:=h' }):dg (fj prog w) A (a0c (.ref it)) Q E s:=by
 obtain⟨o,e1,c1,d1⟩:=id hit;obtain⟨ol,e2,_,nl,d2⟩:=hl;refine rC slot_listiter_next entry_listiter_next hit.typeIs (args_listiter_next _) ?_;show dg (fj prog w) _ (field (.ref it) 0 >>= _) _ _ s;refine au (vg e1 d1 (x:=.ref l) rfl ?_);show dg (fj prog w) _ (field (.ref it) 1 >>= _) _ _ s;refine au (vg e1 d1 (x:=.int i 0) rfl ?_);show dg (fj prog w) _ (seqItems? (.ref l) >>= _) _ _ s;refine au (a1l e2 d2 ?_);simp only[hx,a0m];refine au (zc (au (yh e1 d1 (by simp) ?_)));refine o7 (A:=A.in1) (a5G hq e1 d1 (by simp)) λa h' k c=>?_;obtain⟨oa,ea,ca⟩:=c;exact⟨a,oa,rfl,ea,ca,h h' λb ob n e=>k b ob (((nM e1 d1).2.2.2 b n).trans e)⟩
theorem anO{items:Array aq}(hq:a8U A s.heap)(hit:s.heap.IsTupleIter it l i)(hl:s.heap.IsTuple l items)(hx:items[i]?=bh)
  (h:∀h',a2e it s.heap h'->Q bh {s with heap:=h' }):dg (fj prog w) A (a0c (.ref it)) Q E s:=by
 obtain⟨o,e1,c1,d1⟩:=id hit;obtain⟨ol,e2,_,nl,d2⟩:=hl;refine rC F.slot_tuple_iterator_next F.entry_tuple_iterator_next hit.typeIs (F.args_tuple_iterator_next_1 _) ?_;show dg (fj prog w) _ (field (.ref it) 0 >>= _) _ _ s;refine au (vg e1 d1 (x:=.ref l) rfl ?_);show dg (fj prog w) _ (field (.ref it) 1 >>= _) _ _ s;refine au (vg e1 d1 (x:=.int i 0) rfl ?_);show dg (fj prog w) _ (seqItems? (.ref l) >>= _) _ _ s;refine au (a1l e2 d2 ?_);simp only[hx,a0m];refine au (zc (au (yh e1 d1 (by simp) ?_)));refine o7 (A:=A.in1) (a5G hq e1 d1 (by simp)) λa h' k c=>?_;obtain⟨oa,ea,ca⟩:=c;exact⟨a,oa,rfl,ea,ca,h h' λb ob n e=>k b ob (((nM e1 d1).2.2.2 b n).trans e)⟩
theorem anP{x left step:Int}(hq:a8U A s.heap)(hit:IsRangeIter s.heap it x left step)(hleft:left<=0)
  (h:∀h',a2e it s.heap h'->Q bh {s with heap:=h' }):dg (fj prog w) A (a0c (.ref it)) Q E s:=by
 refine rC F.slot_range_iterator_next F.entry_range_iterator_next ⟨_,hit,rfl⟩ (F.args_range_iterator_next_1 _) ?_;show dg (fj prog w) _ (field (.ref it) 0 >>= _) _ _ s;refine au (vg hit rfl (i:=0) rfl ?_);show dg (fj prog w) _ (field (.ref it) 1 >>= _) _ _ s;refine au (vg hit rfl (i:=1) rfl ?_);show dg (fj prog w) _ (field (.ref it) 2 >>= _) _ _ s;refine au (vg hit rfl (i:=2) rfl ?_);show dg (fj prog w) _ (if left<=0 then _ else _) _ _ s;rw[if_pos hleft];refine au (zc (au ?_));refine o7 (A:=A.in1) hq λa h' k c=>?_;obtain⟨oa,ea,ca⟩:=c;exact⟨a,oa,rfl,ea,ca,h h' λb ob n e=>k b ob e⟩
theorem alO{t:Tok}(hq:a8U A s.heap)(hit:s.heap.IsStrIter it "str_ascii_iterator" x t i)(hx:x.cps[i]?=bh)
  (h:∀h',a2e it s.heap h'->Q bh {s with heap:=h' }):dg (fj prog w) A (a0c (.ref it)) Q E s:=by
 obtain⟨o,e1,c1,d1⟩:=id hit;refine rC F.slot_str_ascii_iterator_next F.entry_str_ascii_iterator_next hit.typeIs (F.args_str_ascii_iterator_next_1 _) ?_;show dg (fj prog w) _ (field (.ref it) 0 >>= _) _ _ s;refine au (vg e1 d1 (x:=.str x t) rfl ?_);show dg (fj prog w) _ (field (.ref it) 1 >>= _) _ _ s;refine au (vg e1 d1 (x:=.int i 0) rfl ?_);simp only[hx,a0m];refine au (zc (au (yh e1 d1 (by simp) (au (wpAny_letGo ?_)))));refine o7 (A:=A.in1) (a5G hq e1 d1 (by simp)) λa h' k c=>?_;obtain⟨oa,ea,ca⟩:=c;exact⟨a,oa,rfl,ea,ca,h h' λb ob n e=>k b ob (((nM e1 d1).2.2.2 b n).trans e)⟩
theorem alP{t:Tok}(hq:a8U A s.heap)(hit:s.heap.IsStrIter it "str_iterator" x t i)(hx:x.cps[i]?=bh)
  (h:∀h',a2e it s.heap h'->Q bh {s with heap:=h' }):dg (fj prog w) A (a0c (.ref it)) Q E s:=by
 obtain⟨o,e1,c1,d1⟩:=id hit;refine rC F.slot_str_iterator_next F.entry_str_iterator_next hit.typeIs (F.args_str_iterator_next_1 _) ?_;show dg (fj prog w) _ (field (.ref it) 0 >>= _) _ _ s;refine au (vg e1 d1 (x:=.str x t) rfl ?_);show dg (fj prog w) _ (field (.ref it) 1 >>= _) _ _ s;refine au (vg e1 d1 (x:=.int i 0) rfl ?_);simp only[hx,a0m];refine au (zc (au (yh e1 d1 (by simp) (au (wpAny_letGo ?_)))));refine o7 (A:=A.in1) (a5G hq e1 d1 (by simp)) λa h' k c=>?_;obtain⟨oa,ea,ca⟩:=c;exact⟨a,oa,rfl,ea,ca,h h' λb ob n e=>k b ob (((nM e1 d1).2.2.2 b n).trans e)⟩
end
end
section
noncomputable abbrev Key:=Sum Int Str
noncomputable def a07:Key->aq->Bool
 |.inl k,v=>aq.isInt k v
 |.inr x,v=>aq.isStrOf x v
noncomputable def aL3(w:jf):Key->Int
 |.inl k=>hashInt k
 |.inr x=>hashStr w x
theorem cG:∀{k:Key}{v:aq},a07 k v=ak->(∃i t,k=Sum.inl i/\v=aq.int i t)∨(∃x t,k=Sum.inr x/\v=aq.str x t)
 |.inl i,v,h=>by
  obtain⟨t,e⟩:=Value.isInt_shape (k:=i) (v:=v) h;exact .inl ⟨i,t,rfl,e⟩
 |.inr x,v,h=>by
  obtain⟨t,e⟩:=Value.isStrOf_shape (x:=x) (v:=v) h;exact .inr ⟨x,t,rfl,e⟩
theorem alQ(i:Int)(t:Tok):a07 (.inl i) (.int i t)=ak:=by simp[a07,aq.isInt]
theorem alR(x:Str)(t:Tok):a07 (.inr x) (.str x t)=ak:=by simp[a07,aq.isStrOf]
theorem azV(a b:Int):decide ((Sum.inl a:Key)=Sum.inl b)=(a==b):=by
 by_cases e:a=b
 .subst e;simp
 .have h:¬ (Sum.inl a:Key)=Sum.inl b:=λq=>e (Sum.inl.inj q);rw[decide_eq_false h];exact(beq_eq_false_iff_ne.mpr e).symm
theorem azW(a b:Str):decide ((Sum.inr a:Key)=Sum.inr b)=decide (a=b):=by
 by_cases e:a=b
 .subst e;simp
 .have h:¬ (Sum.inr a:Key)=Sum.inr b:=λq=>e (Sum.inr.inj q);rw[decide_eq_false h,decide_eq_false e]
theorem azX(a:Int)(b:Str):decide ((Sum.inl a:Key)=Sum.inr b)=ao:=decide_eq_false (λq=>nomatch q)
theorem azY(a:Str)(b:Int):decide ((Sum.inr a:Key)=Sum.inl b)=ao:=decide_eq_false (λq=>nomatch q)
noncomputable def aF(prog:jo)(w:jf):PySem.KeyKind prog w Key where
 is:=a07
 hash:=aL3 w
 inj:=λv a b ha hb=>by
  rcases cG ha with⟨i,t,rfl,rfl⟩|⟨x,t,rfl,rfl⟩
  .rcases cG hb with⟨j,u,rfl,e⟩|⟨y,u,rfl,e⟩
   .injection e with e1 _;rw[e1]
   .exact nomatch e
  .rcases cG hb with⟨j,u,rfl,e⟩|⟨y,u,rfl,e⟩
   .exact nomatch e
   .injection e with e1 _;rw[e1]
 byValue:=λk v h=>by
  rcases cG h with⟨i,t,rfl,rfl⟩|⟨x,t,rfl,rfl⟩<;>rfl
 pyHash:=λhv h=>by
  rcases cG hv with⟨i,t,rfl,rfl⟩|⟨x,t,rfl,rfl⟩
  .exact wpAny_pyHash_int h
  .exact wpAny_pyHash_str h
 eqBool:=λhu hv h=>by
  rcases cG hu with⟨i,t,rfl,rfl⟩|⟨x,t,rfl,rfl⟩
  .rcases cG hv with⟨j,u,rfl,rfl⟩|⟨y,u,rfl,rfl⟩
   .rw[azV]at h;exact wpAny_eqBool_int h
   .rw[azX]at h;exact SeqAt.EqAt.int_str i t y u _ _ _ _ h
  .rcases cG hv with⟨j,u,rfl,rfl⟩|⟨y,u,rfl,rfl⟩
   .rw[azY]at h;exact SeqAt.EqAt.str_int x t j u _ _ _ _ h
   .rw[azW]at h;exact wpAny_eqBool_str h
 «strs» :=λk x t v h=>by
  rcases cG h with⟨i,u,rfl,e⟩|⟨y,u,rfl,e⟩
  .exact nomatch e
  .injection e with e1 _;subst e1;cases v<;>rfl
theorem a3R(prog:jo)(w:jf)(i:Int)(t:Tok):(aF prog w).is (.inl i) (.int i t)=ak:=alQ i t
theorem adJ(prog:jo)(w:jf)(x:Str)(t:Tok):(aF prog w).is (.inr x) (.str x t)=ak:=alR x t
end
section
inductive V where
 |non|bl (b:Bool)|int (i:Int)|str (x:Str)|byt (b:Array UInt8)|flt (b:UInt64)|ref (a:bw)|ty (n:String)
 deriving DecidableEq
noncomputable def RelV:V->aq->Prop
 |.non,u=>u=aq.none
 |.bl b,u=>u=aq.bool b
 |.int i,u=>∃t,u=aq.int i t
 |.str x,u=>∃t,u=aq.str x t
 |.byt b,u=>∃t,u=aq.bytes b t
 |.flt b,u=>∃t,u=aq.float b t
 |.ref a,u=>u=aq.ref a
 |.ty n,u=>u=aq.type n
noncomputable abbrev Vals:List V->List aq->Prop:=Paired RelV
theorem Vals.length{xs:List V}{us:List aq}(r:Vals xs us):xs.length=us.length:=Paired.length r
theorem Vals.get:∀{xs:List V}{us:List aq}{i:Nat}{x:V},Vals xs us->xs[i]?=aj x->∃u,us[i]?=aj u/\RelV x u
 |_,_,_,_,.nil,e=>by simp at e
 |_,_,0,_,.cons r _,e=>by simp at e;subst e;exact⟨_,rfl,r⟩
 |_,_,i+1,x,.cons _ t,e=>by
  obtain⟨u,h1,h2⟩:=Vals.get (i:=i) (x:=x) t (by simpa using e);exact⟨u,by simpa using h1,h2⟩
theorem Vals.set{x:V}(r:RelV x u):∀{xs:List V}{us:List aq}(i:Nat),Vals xs us->Vals (xs.set i x) (us.set i u)
 |_,_,_,.nil=>.nil
 |_,_,0,.cons _ t=>.cons r t
 |_,_,i+1,.cons q t=>.cons q (Vals.set r i t)
theorem Vals.append:∀{xs ys:List V}{us ws:List aq},Vals xs us->Vals ys ws->Vals (xs++ys) (us++ws)
 |_,_,_,_,.nil,s=>s
 |_,_,_,_,.cons r t,s=>.cons r (Vals.append t s)
theorem Vals.take:∀{xs:List V}{us:List aq}(n:Nat),Vals xs us->Vals (xs.take n) (us.take n)
 |_,_,0,_=>.nil
 |_,_,_+1,.nil=>.nil
 |_,_,n+1,.cons r t=>.cons r (Vals.take n t)
theorem Vals.drop:∀{xs:List V}{us:List aq}(n:Nat),Vals xs us->Vals (xs.drop n) (us.drop n)
 |_,_,0,r=>r
 |_,_,_+1,.nil=>.nil
 |_,_,n+1,.cons _ t=>Vals.drop n t
theorem Vals.none_of:∀{xs:List V}{us:List aq}{i:Nat},Vals xs us->xs[i]?=bh->us[i]?=bh:=λ{xs us i} r e=>by
 have h1:=r.length;have h2:xs.length<=i:=List.getElem?_eq_none_iff.mp e;exact List.getElem?_eq_none_iff.mpr (by omega)
noncomputable def sU:Option V->Option aq->Prop
 |some v,aj u=>RelV v u
 |none,bh=>True
 |_,_=>False
noncomputable def KV{κ:Type}:List (κ×V)->List (κ×aq)->Prop:=Paired λ(p:κ×V)(q:κ×aq)=>p.1=q.1/\RelV p.2 q.2
noncomputable def kV:Key->V
 |.inl i=>.int i
 |.inr x=>.str x
inductive HO where
 |lst (xs:List V)
 |tup (xs:List V)
 |dK (kvs:List (Key×V))|dT (kvs:List (List Key×V))
 |set (S:Int->Bool) (n:Nat)
 |ins (C dx:bw) (fs:List (Str×V))
 |own (x:bw)
 |xd (fs:List (Str×V))
 |met (f x:bw)
 |rng (lo hi:Int)
 |gF (o:Obj) (u:HO)
 |tbl (ps:Array aq)
 |ext (φ:jj->Prop)
noncomputable abbrev Hp:=Addr->Option HO
noncomputable def upd(H:Hp)(a:bw)(o:HO):Hp:=λb=>if b=a then aj o else H b
theorem aK{o:HO}:upd H a o a=aj o:=by unfold upd;rw[if_pos rfl]
theorem aU{o:HO}(h:b≠a):upd H a o b=H b:=by unfold upd;rw[if_neg h]
theorem anQ{H:Hp}{o u:HO}(h:H a=aj o)(h':H b=aj u)(d:o≠u):a≠b:=by
 intro e;subst e;rw[h]at h';exact d (iz.inj h')
theorem kZ{H:Hp}{o:HO}(h:H a=aj o)(h':H b=bh):a≠b:=by
 intro e;subst e;rw[h]at h';cases h'
section
variable(P:jo)(w:jf)
noncomputable def dW(H:Hp)(h:jj)(a:bw):HO->Prop
 |.lst xs=>xs.length<=cu/\∃(its:List aq)(n:Nat),Vals xs its/\h.get? a=aj {cls:=.type "list",data:=.seq its.toArray n}
 |.tup xs=>xs.length<=cu/\∃its:List aq,Vals xs its/\IsTup h a its.toArray
 |.dK kvs=>kvs.length<=cu/\(a==nj)=ao/\∃vs,KV kvs vs/\h.DictOf (aF P w) a vs
 |.dT kvs=>kvs.length<=cu/\(a==nj)=ao/\∃xs:List (List Key×bw×aq),
   Paired (λ(p:List Key×V)(q:List Key×bw×aq)=>p.1=q.1/\H q.2.1=aj (.tup (p.1.map kV))/\RelV p.2 q.2.2) kvs xs /\
   ∃o es ep,h.get? a=aj o/\o.ExactDict/\o.data=.dict es ep/\es.toList=xs.map (entryOfKey (a0d (aF P w)))/\(xs.map (·.1)).Nodup
 |.set S n=>h.SetOf (intKind P w) a S n
 |.ins C dx fs=>H dx=aj (.own a)/\fs.length<=1000/\dx≠a/\h.get? a=aj (zf C dx) /\
   ∃mA,h.Ns1 dx mA/\(∀f,sU (fs.lookup f) (mA f))/\PySem.Within mA (fs.map (·.1))
 |.own _=>∃o,h.get? a=aj o
 |.xd fs=>∃mA,h.Ns1 a mA/\∀f,sU (fs.lookup f) (mA f)
 |.rng lo hi=>∃t u v,h.get? a=aj {cls:=.type "range",data:=.fields #[.int lo t,.int hi u,.int 1 v]}
 |.gF o u=>h.get? a=aj o/\dW H h a u
 |.tbl ps=>h.get? a=aj {cls:=.none,data:=.fields ps}
 |.met f x=>h.get? a=aj (PySem.W.methodObj (.ref f) (.ref x))
 |.ext φ=>φ h/\(∃o,h.get? a=aj o)/\∀h1 h2:jj,φ h1->(∀o,h1.get? a=aj o->h2.get? a=aj o)->φ h2
def xQ(H:Hp)(h:jj):Prop:=∀a o,H a=aj o->dW P w H h a o
end
section
variable{w:jf}{h h':jj}{a:bw}{o:HO}
theorem dW.lt(x:dW P w H h a o):a<h.objs.size:=by
 cases o with
 |lst xs=>obtain⟨_,_,_,_,e⟩:=x;exact gw e
 |tup xs=>obtain⟨_,_,_,p⟩:=x;exact p.lt
 |dK kvs=>obtain⟨_,_,_,_,o,_,_,e,_⟩:=x;exact gw e
 |dT kvs=>obtain⟨_,_,_,_,o,_,_,e,_⟩:=x;exact gw e
 |set S n=>obtain⟨o,_,_,_,e,_⟩:=x;exact gw e
 |ins C dx fs=>obtain⟨_,_,_,e,_⟩:=x;exact gw e
 |own y=>obtain⟨_,e⟩:=x;exact gw e
 |xd fs=>obtain⟨_,⟨_,_,_,e,_⟩,_⟩:=x;exact gw e
 |rng lo hi=>obtain⟨_,_,_,e⟩:=x;exact gw e
 |gF ob u=>obtain⟨e,_⟩:=x;exact gw e
 |tbl ps=>exact gw (show h.get? a=aj _ from x)
 |met f y=>exact gw (show h.get? a=aj _ from x)
 |ext φ=>obtain⟨_,⟨_,e⟩,_⟩:=x;exact gw e
theorem Paired.z9{α β:Type}{F G:α->β->Prop}:∀{l₁:List α}{l₂:List β},Paired F l₁ l₂->(∀a b,F a b->G a b)->Paired G l₁ l₂
 |_,_,.nil,_=>.nil
 |_,_,.cons r t,f=>.cons (f _ _ r) (Paired.z9 t f)
theorem dW.stay(x:dW P w H h a o)(k:∀b u,(b=a∨H b=aj (.own a))->h.get? b=aj u->h'.get? b=aj u)
  (ho:∀b,H b=aj (.own a)->H' b=aj (.own a))(ht:∀b xs,H b=aj (.tup xs)->H' b=aj (.tup xs)):dW P w H' h' a o:=by
 induction o with
 |lst xs=>obtain⟨z,its,n,r,e⟩:=x;exact⟨z,its,n,r,k _ _ (.inl rfl) e⟩
 |tup xs=>obtain⟨z,its,r,ob,e,c⟩:=x;exact⟨z,its,r,ob,k _ _ (.inl rfl) e,c⟩
 |dK kvs=>obtain⟨z,y,vs,r,ob,es,ep,e,c⟩:=x;exact⟨z,y,vs,r,ob,es,ep,k _ _ (.inl rfl) e,c⟩
 |dT kvs =>
  obtain⟨z,y,xs,r,ob,es,ep,e,c⟩:=x;exact⟨z,y,xs,Paired.z9 r λp q z=>⟨z.1,ht _ _ z.2.1,z.2.2⟩,ob,es,ep,k _ _ (.inl rfl) e,c⟩
 |set S n=>obtain⟨ob,es,ep,t,e,c⟩:=x;exact⟨ob,es,ep,t,k _ _ (.inl rfl) e,c⟩
 |ins C dx fs =>
  obtain⟨d,z,ne,e,mA,⟨od,es,ep,e2,c⟩,r⟩:=x;exact⟨ho _ d,z,ne,k _ _ (.inl rfl) e,mA,⟨od,es,ep,k _ _ (.inr d) e2,c⟩,r⟩
 |own y=>obtain⟨ob,e⟩:=x;exact⟨ob,k _ _ (.inl rfl) e⟩
 |xd fs=>obtain⟨mA,⟨od,es,ep,e,c⟩,r⟩:=x;exact⟨mA,⟨od,es,ep,k _ _ (.inl rfl) e,c⟩,r⟩
 |rng lo hi=>obtain⟨t,u,v,e⟩:=x;exact⟨t,u,v,k _ _ (.inl rfl) e⟩
 |gF ob u ih=>obtain⟨e,q⟩:=x;exact⟨k _ _ (.inl rfl) e,ih q⟩
 |tbl ps =>
  have e:h.get? a=aj {cls:=.none,data:=.fields ps}:=x;show h'.get? a=aj {cls:=.none,data:=.fields ps};exact k a _ (.inl rfl) e
 |met f y =>
  have e:h.get? a=aj (PySem.W.methodObj (.ref f) (.ref y)):=x;show h'.get? a=aj (PySem.W.methodObj (.ref f) (.ref y));exact k a _ (.inl rfl) e
 |ext φ=>obtain⟨p,⟨o,e⟩,st⟩:=x;exact⟨st _ _ p λo q=>k _ _ (.inl rfl) q,⟨o,k _ _ (.inl rfl) e⟩,st⟩
theorem xQ.lt(x:xQ P w H h)(e:H a=aj o):a<h.objs.size:=(x a o e).lt
theorem xQ.fresh(x:xQ P w H h)(e:h.objs.size<=a):H a=bh:=by
 cases q:H a with
 |none=>rfl
 |some u=>exact absurd (jm (x.lt q) e) (ur _)
theorem xQ.kept(x:xQ P w H h)(k:∀b u,h.get? b=aj u->h'.get? b=aj u):xQ P w H h':=λa o e =>
 (x a o e).stay (λb u _ q=>k b u q) (λ_ q=>q) λ_ _ q=>q
theorem xQ.laid(x:xQ P w H h)(k:∀b u,h.get? b=aj u->h'.get? b=aj u)(hp:h.objs.size<=a)(new:dW P w (upd H a o) h' a o):xQ P w (upd H a o) h':=λb u e=>by
 have hn:=x.fresh hp;by_cases hb:b=a
 .subst hb;rw[aK]at e;cases e;exact new
 .rw[aU hb]at e;exact(x b u e).stay (λc v _ q=>k c v q) (λc q=>by rw[aU (kZ q hn)];exact q) λc xs q=>by rw[aU (kZ q hn)];exact q
end
def Rd(H:Hp)(a:bw)(u:HO):Prop:=H a=aj u∨∃o,H a=aj (.gF o u)
theorem Rd.of(h:H a=aj u):Rd H a u:=.inl h
theorem Rd.ok{w:jf}{h:jj}(r:Rd H a u)(x:xQ P w H h):dW P w H h a u:=by
 rcases r with r|⟨o,r⟩
 .exact x a u r
 .obtain⟨_,q⟩:=x a _ r;exact q
noncomputable def Mut:Option HO->Prop
 |some (.lst _)=>True
 |some (.dK _)=>True
 |some (.dT _)=>True
 |some (.set _ _)=>True
 |some (.ins _ _ _)=>True
 |some (.ext _)=>True
 |_=>False
section
variable{w:jf}{h h':jj}{x:bw}
theorem xQ.write(ok:xQ P w H h)(mu:Mut (H x))(he:e=x∨H e=aj (.own x))(k:∀b u,b≠e->h.get? b=aj u->h'.get? b=aj u)(heo:∃u,h'.get? e=aj u)
  (new:dW P w (upd H x o') h' x o'):xQ P w (upd H x o') h':=λb u q=>by
 have aFW:∀c y,H c=aj (.own y)->c≠x:=λc y r z=>by subst z;rw[r]at mu;exact mu
 have aL4:∀c xs,H c=aj (.tup xs)->c≠x:=λc xs r z=>by subst z;rw[r]at mu;exact mu
 by_cases hb:b=x
 .subst hb;rw[aK]at q;cases q;exact new
 .rw[aU hb]at q;by_cases hbe:b=e
  .have q':H b=aj (.own x):=by
    rcases he with z|z
    .exact absurd (hbe.trans z) hb
    .rw[hbe];exact z
   rw[q]at q';cases q';obtain⟨v,hv⟩:=heo;exact⟨v,by rw[hbe];exact hv⟩
  .refine(ok b u q).stay (λc v hc r=>k c v ?_ r) (λc r=>by rw[aU (aFW c b r)];exact r) λc xs r=>by rw[aU (aL4 c xs r)];exact r
   rcases hc with rfl|hc
   .exact hbe
   .rintro rfl;rcases he with z|z
    .exact aFW c b hc z
    .rw[hc]at z;cases z;exact hb rfl
end
structure Un(fs ex:List bw)(H H':Hp)(h h':jj):Prop where
 keep:∀b o,h.get? b=aj o->H b=bh->b∉fs->b∉ex->h'.get? b=aj o
 slot:∀b o,h.get? b=aj o->H b=bh->b∈fs->b∉ex->∃sl,h'.get? b=aj {o with slots:=sl}
 free:∀b o,h.get? b=aj o->H b=bh->b∉ex->H' b=bh
 there:∀b o,h.get? b=aj o->b∉ex->∃o',h'.get? b=aj o'
 tups:∀b xs,H b=aj (.tup xs)->H' b=aj (.tup xs)
 jK:∀b o u,H b=aj (.gF o u)->H' b=aj (.gF o u)
 sV:∀b ps,H b=aj (.tbl ps)->∃more,H' b=aj (.tbl (ps++more))
section
variable{fs ex:List bw}{h h1 h':jj}{a x:bw}{o:HO}
theorem Un.any(u:Un fs ex H H1 h h1){ob:Obj}(q:h.get? b=aj ob)(n:H b=bh)(hx:b∉ex):∃sl,h1.get? b=aj {ob with slots:=sl}:=by
 by_cases hb:b∈fs
 .exact u.slot b ob q n hb hx
 .exact⟨ob.slots,u.keep b ob q n hb hx⟩
theorem Un.trans(a:Un fs ex H H1 h h1)(b:Un fs ex H1 H2 h1 h2):Un fs ex H H2 h h2 where
 keep:=λc ob q n hc hx=>b.keep c ob (a.keep c ob q n hc hx) (a.free c ob q n hx) hc hx
 slot:=λc ob q n hc hx=>by
  obtain⟨sl,e1⟩:=a.slot c ob q n hc hx;obtain⟨sl',e2⟩:=b.slot c _ e1 (a.free c ob q n hx) hc hx;exact⟨sl',e2⟩
 free:=λc ob q n hx=>by
  obtain⟨o',e1⟩:=a.there c ob q hx;exact b.free c o' e1 (a.free c ob q n hx) hx
 there:=λc ob q hx=>by
  obtain⟨o',e1⟩:=a.there c ob q hx;exact b.there c o' e1 hx
 tups:=λc xs q=>b.tups c xs (a.tups c xs q)
 jK:=λc ob xs q=>b.jK c ob xs (a.jK c ob xs q)
 sV:=λc ps q=>by
  obtain⟨m1,e1⟩:=a.sV c ps q;obtain⟨m2,e2⟩:=b.sV c _ e1;exact⟨m1++m2,by rw[e2,Array.append_assoc]⟩
theorem Un.kept(k:∀b u,h.get? b=aj u->h'.get? b=aj u):Un fs ex H H h h' :=
 ⟨λb ob q _ _ _=>k b ob q,λb ob q _ _ _=>⟨ob.slots,k b ob q⟩,λ_ _ _ n _=>n,λb ob q _=>⟨ob,k b ob q⟩,λ_ _ q=>q,λ_ _ _ q=>q,λ_ ps q=>⟨#[],by rw[q];simp⟩⟩
theorem Un.refl:Un fs ex H H h h:=Un.kept λ_ _ q=>q
theorem Un.laid(k:∀b u,h.get? b=aj u->h'.get? b=aj u)(hp:h.objs.size<=a)(hn:H a=bh):Un fs ex H (upd H a o) h h' where
 keep:=λb u q _ _ _=>k b u q
 slot:=λb u q _ _ _=>⟨u.slots,k b u q⟩
 free:=λb u q n _=>by rw[aU (jc (jm (gw q) hp))];exact n
 there:=λb u q _=>⟨u,k b u q⟩
 tups:=λb xs q=>by rw[aU (kZ q hn)];exact q
 jK:=λb u xs q=>by rw[aU (kZ q hn)];exact q
 sV:=λb ps q=>⟨#[],by rw[aU (kZ q hn),q];simp⟩
theorem Un.write(mu:Mut (H x))(he:e=x∨H e=aj (.own x))(k:∀b u,b≠e->h.get? b=aj u->h'.get? b=aj u)(heo:∃u,h'.get? e=aj u):Un fs ex H (upd H x o) h h':=by
 have hx:∀b,H b=bh->b≠x:=λb n z=>by subst z;rw[n]at mu;exact mu
 have hb:∀b,H b=bh->b≠e:=λb n z=>by
  subst z;rcases he with r|r
  .exact hx b n r
  .rw[n]at r;cases r
 have hm:∀b u,H b=aj u->¬ Mut (aj u)->b≠x:=λb u q nm z=>by subst z;rw[q]at mu;exact nm mu
 refine⟨λb u q n _ _=>k b u (hb b n) q,λb u q n _ _=>⟨u.slots,k b u (hb b n) q⟩,λb u q n _=>by rw[aU (hx b n)];exact n,λb u q _=>?_,
  λb xs q=>by rw[aU (hm b _ q λz=>z)];exact q,λb u xs q=>by rw[aU (hm b _ q λz=>z)];exact q,λb ps q=>⟨#[],by rw[aU (hm b _ q λz=>z),q];simp⟩⟩
 by_cases hbe:b=e
 .subst hbe;exact heo
 .exact⟨u,k b u hbe q⟩
theorem Un.mono(u:Un fs ex H H1 h h1)(hs:∀b∈fs,b∈fs')(hx:∀b∈ex,b∈ex'):Un fs' ex' H H1 h h1 :=
 ⟨λb ob q n hb he=>u.keep b ob q n (λz=>hb (hs b z)) λz=>he (hx b z),λ_ _ q n _ he=>u.any q n λz=>he (hx _ z),λb ob q n he=>u.free b ob q n λz=>he (hx b z),λb ob q he=>u.there b ob q λz=>he (hx b z),u.tups,u.jK,u.sV⟩
end
noncomputable def trk(h:jj)(H:Hp):List bw:=(jw h.objs.size).filter λa=>(H a).isSome
noncomputable def abB(h:jj)(H:Hp):jj:=a2j h (trk h H)
theorem alS(h:jj)(H:Hp):(abB h H).objs.size=h.objs.size:=PySem.W.hideAll_size _ _
theorem anR{h:jj}(e:h.get? b=aj o)(n:H b=bh):(abB h H).get? b=aj o :=
 PySem.W.hideAll_get _ e λhm=>by
  have q:(H b).isSome=ak:=(qu.mp hm).2;rw[n]at q;simp at q
theorem atG{h:jj}(e:(abB h H).get? b=aj o):h.get? b=aj o/\H b=bh:=by
 have e':h.get? b=aj o:=PySem.W.of_hideAll (trk h H) e;refine⟨e',?_⟩;cases q:H b with
 |none=>rfl
 |some x =>
  have hm:b∈trk h H:=qu.mpr ⟨xg.mpr (gw e'),by simp[q]⟩;have z:(abB h H).get? b=bh:=PySem.W.hideAll_none (trk h H) hm;rw[z]at e;cases e
noncomputable def atH(g h:jj)(L:bw):List (bw×Obj):=(jw h.objs.size).filterMap λa=>if a=L∨(g.get? a).isSome=ak then bh else(h.get? a).map λo=>(a,o)
noncomputable def rest(g h:jj)(L d:bw):List (bw×Obj):=(atH g h L).filter λp=>decide (p.1≠d)
end
variable{v:V}{A:jr}{t':Nat}{N:List Str}{s:dh}
section
structure Mod(K:iw)(mg:Str->Option aq)(base:jj):Prop where
 kin:K.In base
 glob:base.Ns ju mg
 blt:∃mb,base.Ns builtinsNs mb/\∀x:Str,x≠"__name__"->mb x=ni x
 nolimit:base.NoLimit
structure Cx where
 prog:jo
 w:jf
 K:iw
 mg:Str->Option aq
 base:jj
 A:jr
 N:List Str
 s₀:dh
 H₀:Hp
 env:Env
 outer:List Env
 stack:List Env
 ex:List bw
 fn:Str->Bool
 calm:Bool
 pn:List (bw×Obj)
 tp:List (bw×List V)
 xe:aq->dh->Prop
noncomputable def frs(l:List Env):List bw:=l.filterMap (·.frame)
noncomputable abbrev Cx.fs(X:Cx):List bw:=frs X.outer
def Vis(sc:yp)(x:Str):Prop:=sc.names.lookup x=aj .local∨sc.names.lookup x=aj .cell∨sc.names.lookup x=aj .free
def Loc(sc:yp)(x:Str):Prop:=sc.names.lookup x=aj .local∨sc.names.lookup x=aj .cell
noncomputable def Look(env:Env)(h:jj)(m:Str->Option aq)(x:Str)(u:aq):Prop :=
 (env.kindOf x=aj .local/\m x=aj u)∨((env.kindOf x=aj .cell∨env.kindOf x=aj .free)/\∃c,env.cells.lookup x=aj c/\h.IsCell c (aj u))
structure Cx.Ok(X:Cx):Prop where
 mod:Mod X.K X.mg X.base
 kind:X.env.scope.kind=.function
 glob:X.env.globals=ju
 blt:X.env.builtins=builtinsNs
 above:X.s₀.heap.objs.size<=X.env.locals
 inj:∀x y c,X.env.cells.lookup x=aj c->X.env.cells.lookup y=aj c->x=y
 has:∀x,(X.env.kindOf x=aj .cell∨X.env.kindOf x=aj .free)->∃c,X.env.cells.lookup x=aj c
 cab:∀x c,X.fn x=ak->X.env.cells.lookup x=aj c->X.s₀.heap.objs.size<=c
 hd:X.calm=ak->X.A.handled=bh
 frames:X.A.frames=aj X.stack
 stk:X.stack=X.outer∨(X.stack=X.env::X.outer/\X.env.frame=aj X.env.locals)
 exf:∀b∈X.ex,b≠X.env.locals/\∀x c,X.env.cells.lookup x=aj c->c≠b
 bs:∀b o,X.base.get? b=aj o->X.s₀.heap.get? b=aj o/\X.H₀ b=bh
 bsz:X.base.objs.size<=X.s₀.heap.objs.size
 abC:∀b o,X.base.get? b=aj o->b∉X.ex
 adK:∀b∈X.ex,b∉X.fs
 uT:X.s₀.heap.FunFrames X.base X.outer
 frf:∀b∈X.fs,X.H₀ b=bh
def Hnd(A:jr)(H:Hp):Prop:=A.handled=bh∨∃x o u vs,A.handled=aj (.ref x)/\H x=aj (.gF o u)/\o.data=.fields vs/\vs[2]?=aj .none
theorem Hnd.mono(h:Hnd A H)(f:∀b o u,H b=aj (.gF o u)->H' b=aj (.gF o u)):Hnd A H':=by
 rcases h with z|⟨x,o,u,vs,a,b,c⟩
 .exact .inl z
 .exact .inr ⟨x,o,u,vs,a,f _ _ _ b,c⟩
theorem Hnd.heap{w:jf}{h:jj}(q:Hnd A H)(hok:xQ P w H h):a8U A h:=by
 rcases q with z|⟨x,o,u,vs,a,b,c⟩
 .exact .inl z
 .exact .inr ⟨x,o,vs,a,(hok x _ b).1,c⟩
structure Inv(X:Cx)(pins:List (bw×Obj))(σ:List (Option V))(H:Hp)(s:dh):Prop where
 ok:X.Ok
 os:s.os=X.s₀.os
 bare:AllBare s.gens
 base:Un X.fs X.ex X.H₀ H X.s₀.heap s.heap
 loc:∃m,s.heap.Ns X.env.locals m/\∀(i:Nat)(x:Str)(v:V),X.N[i]?=aj x->σ[i]?=aj (aj v)->Vis X.env.scope x->∃u,RelV v u/\Look X.env s.heap m x u
 cell:∀x c,X.env.cells.lookup x=aj c->∃v,s.heap.IsCell c v
 free:H X.env.locals=bh
 nF:∀x c,X.env.cells.lookup x=aj c->H c=bh
 pin:∀p∈X.pn++pins,s.heap.get? p.1=aj p.2/\H p.1=bh/\p.1≠X.env.locals/\p.1∉X.fs/\∀v,p.2.data≠.cell v
 hok:xQ X.prog X.w H s.heap
 len:σ.length=X.N.length
 hnd:Hnd X.A H
 tup:∀p∈X.tp,H p.1=aj (.tup p.2)
variable{i:Nat}
section
variable{X:Cx}{pins:List (bw×Obj)}{σ:List (Option V)}{H H':Hp}{s:dh}{h':jj}
theorem Cx.Ok.aL5(ok:X.Ok)(e:X.base.get? b=aj o):b∉X.fs:=λhb=>by
 have:=(ok.uT.mem hb).1;rw[e]at this;cases this
theorem Inv.bs(I:Inv X pins σ H s):∀b o,X.base.get? b=aj o->s.heap.get? b=aj o/\H b=bh:=λb o e =>
 ⟨I.base.keep b o (I.ok.bs b o e).1 (I.ok.bs b o e).2 (I.ok.aL5 e) (I.ok.abC b o e),I.base.free b o (I.ok.bs b o e).1 (I.ok.bs b o e).2 (I.ok.abC b o e)⟩
theorem Inv.bk(I:Inv X pins σ H s):∀b o,X.base.get? b=aj o->s.heap.get? b=aj o:=λb o e=>(I.bs b o e).1
theorem Inv.mod(I:Inv X pins σ H s):Mod X.K X.mg X.base:=I.ok.mod
theorem Inv.kIn(I:Inv X pins σ H s):X.K.In s.heap:=I.ok.mod.kin.keeps I.bk
theorem Inv.nolimit(I:Inv X pins σ H s):s.heap.NoLimit:=I.ok.mod.nolimit.keeps I.bk
theorem Inv.fr(I:Inv X pins σ H s):∃m,Fr X.base X.env.locals s.heap m :=
 let⟨m,hn,_⟩:=I.loc
 ⟨m,hn,I.bk,qj I.ok.bsz I.ok.above⟩
theorem Inv.lt(I:Inv X pins σ H s):X.env.locals<s.heap.objs.size:=let⟨_,hn,_⟩:=I.loc;hn.lt
theorem Inv.sz(I:Inv X pins σ H s):X.s₀.heap.objs.size<=s.heap.objs.size:=qj I.ok.above (ux I.lt)
theorem Inv.aL6(I:Inv X pins σ H s)(h:s.heap.objs.size<=a):a∉X.fs:=λhb=>by
 obtain⟨_,o,ho,_⟩:=I.ok.uT.mem hb;exact absurd (jm (gw ho) (qj I.sz h)) (ur _)
theorem Inv.cne(I:Inv X pins σ H s):∀x c,X.env.cells.lookup x=aj c->c≠X.env.locals:=λx c e z=>by
 obtain⟨v,o,ho,hd⟩:=I.cell x c e;obtain⟨m,⟨o',es,ep,ho',hd',_⟩,_⟩:=I.loc;rw[z,ho']at ho;cases ho;rw[hd']at hd;cases hd
theorem Inv.uT(I:Inv X pins σ H s):s.heap.FunFrames X.base X.outer:=by
 have all:∀(l:List Env),(∀b∈frs l,b∈X.fs)->X.s₀.heap.FunFrames X.base l->s.heap.FunFrames X.base l:=by
  intro l
  induction l with
  |nil=>intro _ _;trivial
  |cons env r ih =>
   intro hs hl;obtain⟨hk,⟨L,o,hf,hn,ho,hd⟩,hr⟩:=hl;have hL:L∈X.fs:=hs L (by unfold frs;rw[a2r,hf];exact su);obtain⟨sl,e⟩:=I.base.slot L o ho (I.ok.frf L hL) hL λz=>I.ok.adK L z hL;exact⟨hk,⟨L,_,hf,hn,e,hd⟩,ih (λb hb=>hs b (by unfold frs;rw[a2r,hf];exact jq _ hb)) hr⟩
 exact all X.outer (λ_ hb=>hb) I.ok.uT
theorem Inv.stack(I:Inv X pins σ H s):s.heap.FunFrames X.base X.stack:=by
 rcases I.ok.stk with e|⟨e,hf⟩
 .rw[e];exact I.uT
 .rw[e];obtain⟨m,hn,_⟩:=I.loc;refine .cons (by rw[I.ok.kind];decide) hf hn ?_ I.uT;exact Heap.get?_none_of_le (qj I.ok.bsz I.ok.above)
theorem Inv.agY(I:Inv X pins σ H s):∀b∈frs X.stack,b∈X.env.locals::X.fs:=λb hb=>by
 rcases I.ok.stk with e|⟨e,hf⟩
 .rw[e]at hb;exact jq _ hb
 .rw[e]at hb;unfold frs at hb;rw[a2r,hf]at hb;exact hb
theorem Inv.abD(I:Inv X pins σ H s):∀b∈frs X.stack,H b=bh:=λb hb=>by
 rcases je.mp (I.agY b hb)with e|hb
 .rw[e];exact I.free
 .obtain⟨_,o,ho,_⟩:=I.ok.uT.mem hb;exact I.base.free b o ho (I.ok.frf b hb) λz=>I.ok.adK b z hb
theorem Inv.step{g':Array GenState}{d':Drawn}{ch:List bw}(I:Inv X pins σ H s)
  (hch:∀b∈ch,(b∈X.ex∨X.s₀.heap.objs.size<=b)/\b≠X.env.locals/\(∀x c,X.env.cells.lookup x=aj c->c≠b)/\∀p∈X.pn++pins,p.1≠b)
  (keep:∀b o,b≠X.env.locals->b∉X.fs->b∉ch->s.heap.get? b=aj o->H b=bh->h'.get? b=aj o)
  (slot:∀b o,b≠X.env.locals->b∈X.fs->b∉ch->s.heap.get? b=aj o->H b=bh->∃sl,h'.get? b=aj {o with slots:=sl})(free:∀b o,b∉ch->s.heap.get? b=aj o->H b=bh->H' b=bh)
  (there:∀b o,b∉ch->s.heap.get? b=aj o->∃o',h'.get? b=aj o')
  (tups:∀b xs,H b=aj (.tup xs)->H' b=aj (.tup xs))(jK:∀b o u,H b=aj (.gF o u)->H' b=aj (.gF o u))(sV:∀b ps,H b=aj (.tbl ps)->∃more,H' b=aj (.tbl (ps++more)))
  (ns:∀m,s.heap.Ns X.env.locals m->h'.Ns X.env.locals m)(hok:xQ X.prog X.w H' h')(hg:AllBare g') :
  Inv X pins σ H' {s with heap:=h',gens:=g',drawn:=d',toks:=t' }:=by
 have neL:∀b o,X.s₀.heap.get? b=aj o->b≠X.env.locals:=λb o e=>jc (jm (gw e) I.ok.above)
 have neC:∀b o,X.s₀.heap.get? b=aj o->b∉X.ex->b∉ch:=λb o e hx hb=>by
  rcases(hch b hb).1 with z|z
  .exact hx z
  .exact absurd (jm (gw e) z) (ur _)
 have cellK:∀x c,X.env.cells.lookup x=aj c->∀v,s.heap.IsCell c v->h'.IsCell c v:=λx c e v ⟨o,ho,hd⟩=>by
  have nch:c∉ch:=λz=>(hch c z).2.2.1 x c e rfl;by_cases hc:c∈X.fs
  .obtain⟨sl,q⟩:=slot c o (I.cne x c e) hc nch ho (I.nF x c e);exact⟨_,q,hd⟩
  .exact⟨o,keep c o (I.cne x c e) hc nch ho (I.nF x c e),hd⟩
 refine⟨I.ok,I.os,hg,⟨λb o e n hb hx=>?_,λb o e n hb hx=>?_,λb o e n hx=>?_,λb o e hx=>?_,λb xs e=>tups b xs (I.base.tups b xs e),λb o xs e=>jK b o xs (I.base.jK b o xs e),λb ps e=>?_⟩,?_,λx c e=>?_,?_,λx c e=>?_,λp hp=>?_,hok,I.len,I.hnd.mono jK,λp hp=>tups _ _ (I.tup p hp)⟩
 .exact keep b o (neL b o e) hb (neC b o e hx) (I.base.keep b o e n hb hx) (I.base.free b o e n hx)
 .obtain⟨sl,e1⟩:=I.base.slot b o e n hb hx;obtain⟨sl',e2⟩:=slot b _ (neL b o e) hb (neC b o e hx) e1 (I.base.free b o e n hx);exact⟨sl',e2⟩
 .obtain⟨o',e1⟩:=I.base.there b o e hx;exact free b o' (neC b o e hx) e1 (I.base.free b o e n hx)
 .obtain⟨o',e1⟩:=I.base.there b o e hx;exact there b o' (neC b o e hx) e1
 .obtain⟨m1,e1⟩:=I.base.sV b ps e;obtain⟨m2,e2⟩:=sV b _ e1;exact⟨m1++m2,by rw[e2,Array.append_assoc]⟩
 .obtain⟨m,hn,hl⟩:=I.loc;refine⟨m,ns m hn,λi x v e1 e2 e3=>?_⟩;obtain⟨u,r,l⟩:=hl i x v e1 e2 e3;refine⟨u,r,?_⟩;rcases l with l|⟨k,c,e,z⟩
  .exact .inl l
  .exact .inr ⟨k,c,e,cellK x c e _ z⟩
 .obtain⟨v,z⟩:=I.cell x c e;exact⟨v,cellK x c e v z⟩
 .obtain⟨m,⟨o,_,_,ho,_⟩,_⟩:=I.loc;exact free _ o (λz=>(hch _ z).2.1 rfl) ho I.free
 .obtain⟨v,o,ho,hd⟩:=I.cell x c e;exact free c o (λz=>(hch c z).2.2.1 x c e rfl) ho (I.nF x c e)
 .obtain⟨e,n,ne,nf,d⟩:=I.pin p hp;have nch:p.1∉ch:=λz=>(hch p.1 z).2.2.2 p hp rfl;exact⟨keep p.1 p.2 ne nf nch e n,free p.1 p.2 nch e n,ne,nf,d⟩
theorem Inv.un(I:Inv X pins σ H s)(u:Un X.fs [] H H' s.heap h')(hok:xQ X.prog X.w H' h'):Inv X pins σ H' {s with heap:=h',toks:=t' }:=by
 obtain⟨m,⟨o,es,ep,ho,r⟩,_⟩:=id I.loc;obtain⟨sl,hL⟩:=u.any ho I.free (by simp)
 exact I.step (g':=s.gens) (d':=s.drawn) (ch:=[]) (λ_ z=>nomatch z) (λb o _ hb _ e n=>u.keep b o e n hb (by simp)) (λb o _ hb _ e n=>u.slot b o e n hb (by simp)) (λb o _ e n=>u.free b o e n (by simp)) (λb o _ e=>u.there b o e (by simp)) u.tups u.jK u.sV (λm' hm=>by
  obtain⟨o',es',ep',ho',r'⟩:=hm;rw[ho]at ho';cases ho';exact⟨_,es',ep',hL,r'⟩) hok I.bare
theorem Inv.call(I:Inv X pins σ H s)(u:Un (frs X.stack) ch H H' s.heap h')(hok:xQ X.prog X.w H' h')(hg:AllBare g')
  (hch:∀b∈ch,(b∈X.ex∨X.s₀.heap.objs.size<=b)/\b≠X.env.locals/\(∀x c,X.env.cells.lookup x=aj c->c≠b)/\∀p∈X.pn++pins,p.1≠b) :
  Inv X pins σ H' {s with heap:=h',gens:=g',drawn:=d',toks:=t' }:=by
 obtain⟨m,⟨o,es,ep,ho,r⟩,_⟩:=id I.loc;obtain⟨sl,hL⟩:=u.any ho I.free λz=>(hch _ z).2.1 rfl
 exact I.step (ch:=ch) hch (λb o hL hb hc e n=>u.keep b o e n (λz=>(je.mp (I.agY b z)).elim hL hb) hc) (λb o _ _ hc e n=>u.any e n hc) (λb o hc e n=>u.free b o e n hc) (λb o hc e=>u.there b o e hc) u.tups u.jK u.sV (λm' hm=>by
  obtain⟨o',es',ep',ho',r'⟩:=hm;rw[ho]at ho';cases ho';exact⟨_,es',ep',hL,r'⟩) hok hg
theorem Inv.turned(I:Inv X pins σ H s)(k:∀b o,b≠it->s.heap.get? b=aj o->h'.get? b=aj o)(hn:H it=bh)(hL:it≠X.env.locals)
  (h1:it∈X.ex∨X.s₀.heap.objs.size<=it)(h2:∀x c,X.env.cells.lookup x=aj c->c≠it)(h3:∀p∈X.pn++pins,p.1≠it):Inv X pins σ H {s with heap:=h',toks:=t' }:=by
 have nit:∀b u,H b=aj u->b≠it:=λb u e z=>by rw[z,hn]at e;cases e
 refine I.step (g':=s.gens) (d':=s.drawn) (ch:=[it]) (λb hb=>?_) (λb o _ _ hc e _=>k b o (λz=>hc (by simp[z])) e) (λb o _ _ hc e _=>⟨o.slots,k b o (λz=>hc (by simp[z])) e⟩) (λ_ _ _ _ n=>n)
  (λb o hc e=>⟨o,k b o (λz=>hc (by simp[z])) e⟩) (λ_ _ e=>e) (λ_ _ _ e=>e) (λb ps e=>⟨#[],by rw[e];simp⟩) (λm hm=>?_) (λb u e=>?_) I.bare
 .have e:b=it:=by simpa using hb
  subst e;exact⟨h1,hL,h2,h3⟩
 .obtain⟨o,es,ep,ho,r⟩:=hm;exact⟨o,es,ep,k _ o (Ne.symm hL) ho,r⟩
 .refine(I.hok b u e).stay (λc v hc q=>k c v ?_ q) (λ_ q=>q) λ_ _ q=>q;rcases hc with z|z
  .rw[z];exact nit b u e
  .exact nit c _ z
theorem Inv.tok(I:Inv X pins σ H s)(t:Nat):Inv X pins σ H {s with toks:=t}:=I.un (h':=s.heap) (t':=t) Un.refl I.hok
theorem Inv.kept{t':Nat}(I:Inv X pins σ H s)(k:∀b u,s.heap.get? b=aj u->h'.get? b=aj u):Inv X pins σ H {s with heap:=h',toks:=t' }:=I.un (Un.kept k) (I.hok.kept k)
theorem Inv.laid{a:bw}{o:HO}{t':Nat}(I:Inv X pins σ H s)(k:∀b u,s.heap.get? b=aj u->h'.get? b=aj u)(hp:s.heap.objs.size<=a)(new:dW X.prog X.w (upd H a o) h' a o) :
  Inv X pins σ (upd H a o) {s with heap:=h',toks:=t' }:=I.un (Un.laid k hp (I.hok.fresh hp)) (I.hok.laid k hp new)
theorem Inv.write{x:bw}{o:HO}{t':Nat}(I:Inv X pins σ H s)(mu:Mut (H x))(he:e=x∨H e=aj (.own x))(k:∀b u,b≠e->s.heap.get? b=aj u->h'.get? b=aj u)(heo:∃u,h'.get? e=aj u)
  (new:dW X.prog X.w (upd H x o) h' x o):Inv X pins σ (upd H x o) {s with heap:=h',toks:=t' }:=I.un (Un.write mu he k heo) (I.hok.write mu he k heo new)
theorem Inv.weak{σ':List (Option V)}(I:Inv X pins σ H s)(hl:σ'.length=σ.length)(w:∀(i:Nat) v,σ'[i]?=aj (aj v)->σ[i]?=aj (aj v)):Inv X pins σ' H s :=
 ⟨I.ok,I.os,I.bare,I.base,let⟨m,hn,hl'⟩:=I.loc;⟨m,hn,λi x v e1 e2 e3=>hl' i x v e1 (w i v e2) e3⟩,I.cell,I.free,I.nF,I.pin,I.hok,hl.trans I.len,I.hnd,I.tup⟩
theorem Inv.ajA(I:Inv X pins σ H s)(h:∀p∈a9R,s.heap.get? p.1=aj p.2/\H p.1=bh/\p.1≠X.env.locals/\p.1∉X.fs/\∀v,p.2.data≠.cell v):Inv X a9R σ H s :=
 ⟨I.ok,I.os,I.bare,I.base,I.loc,I.cell,I.free,I.nF,λp hp=>(ug.mp hp).elim (λz=>I.pin p (a0n _ z)) (h p),I.hok,I.len,I.hnd,I.tup⟩
theorem adL(hN:N.Nodup){j:Nat}(a:N[i]?=aj x)(b:N[j]?=aj x):i=j:=by
 obtain⟨h1,e1⟩:=ji.mp a;obtain⟨h2,e2⟩:=ji.mp b;exact(List.getElem_inj hN).mp (e1.trans e2.symm)
theorem alT(I:Inv X pins σ H s)(hN:X.N.Nodup)(hi:X.N[i]?=aj x)(hx:Loc X.env.scope x)(r:RelV v u)
  (h:∀s',Inv X pins (σ.set i (aj v)) H s'->(∃a,jz a s.heap s'.heap/\(a=X.env.locals∨X.env.cells.lookup x=aj a))->Q () s')(hf:X.fn x=ak∨X.env.scope.names.lookup x=aj .local:=by first|exact .inl rfl|exact .inr rfl|assumption):dg M A (storeName X.env x u) Q E s:=by
 obtain⟨m,hn,hl⟩:=id I.loc;have hcls:(X.env.scope.kind==.class||(X.env.scope.kind==.module&&X.env.locals !=X.env.globals))=ao:=by rw[I.ok.kind];rfl
 have hiσ:i<σ.length:=by rw[I.len];exact(ji.mp hi).1
 have cne:=I.cne
 have tracked:∀{a:bw}{h':jj},(∃o,s.heap.get? a=aj o/\H a=bh)->jz a s.heap h'->xQ X.prog X.w H h':=λ{a h'} ha hs b ob e=>by
  obtain⟨_,_,hfree⟩:=ha;refine(I.hok b ob e).stay (λc w' hc q=>(hs.2 c ?_).trans q) (λ_ q=>q) λ_ _ q=>q;rintro rfl;rcases hc with rfl|hc
  .rw[hfree]at e;cases e
  .rw[hfree]at hc;cases hc
 rcases hx with hk|hk
 .refine wpAny_storeName_local hk hn (λh' hn' hs=>?_) hcls;obtain⟨oL,_,_,hoL,_⟩:=id hn;refine h _ ⟨I.ok,I.os,I.bare,⟨λb o e n hb hx=>?_,λb o e n hb hx=>?_,I.base.free,λb o e hx=>?_,I.base.tups,I.base.jK,I.base.sV⟩,⟨_,hn',λj y v' e1 e2 e3=>?_⟩,λy c e=>?_,I.free,I.nF,λp hp=>?_,tracked ⟨oL,hoL,I.free⟩ hs,by simpa using I.len,I.hnd,I.tup⟩ ⟨_,hs,.inl rfl⟩
  .exact(hs.2 b (jc (jm (gw e) I.ok.above))).trans (I.base.keep b o e n hb hx)
  .obtain⟨sl,e1⟩:=I.base.slot b o e n hb hx;exact⟨sl,(hs.2 b (jc (jm (gw e) I.ok.above))).trans e1⟩
  .obtain⟨o',e1⟩:=I.base.there b o e hx;exact⟨o',(hs.2 b (jc (jm (gw e) I.ok.above))).trans e1⟩
  .by_cases hj:j=i
   .subst hj;rw[hi]at e1;cases e1;rw[a2f hiσ]at e2;cases e2;exact⟨u,r,.inl ⟨hk,by simp⟩⟩
   .rw[vf (Ne.symm hj)]at e2;obtain⟨u',r',q⟩:=hl j y v' e1 e2 e3;refine⟨u',r',?_⟩;rcases q with⟨k,e⟩|⟨k,c,e,z⟩
    .refine .inl ⟨k,?_⟩;have:y≠x:=λe=>hj (adL hN e1 (e ▸ hi));simp[this,e]
    .exact .inr ⟨k,c,e,z.sameBut hs (cne y c e)⟩
  .obtain⟨w',z⟩:=I.cell y c e;exact⟨w',z.sameBut hs (cne y c e)⟩
  .obtain⟨e,n,ne,nf,d⟩:=I.pin p hp;exact⟨(hs.2 p.1 ne).trans e,n,ne,nf,d⟩
 .have hfn:X.fn x=ak:=by
   rcases hf with z|z
   .exact z
   .rw[z]at hk;cases hk
  obtain⟨c,hc⟩:=I.ok.has x (.inl hk);obtain⟨w',z⟩:=I.cell x c hc;refine wpAny_storeName_cell I.ok.kind hk hc z (λh' hc' hs=>?_);obtain⟨oc,hoc,aL7⟩:=id z;refine h {s with heap:=h' } ⟨I.ok,I.os,I.bare,⟨λb o e n hb hx=>?_,λb o e n hb hx=>?_,I.base.free,λb o e hx=>?_,I.base.tups,I.base.jK,I.base.sV⟩,⟨m,hn.sameBut hs (Ne.symm (cne x c hc)),λj y v' e1 e2 e3=>?_⟩,λy c' e=>?_,I.free,I.nF,λp hp=>?_,tracked ⟨oc,hoc,I.nF x c hc⟩ hs,by simpa using I.len,I.hnd,I.tup⟩ ⟨c,hs,.inr hc⟩
  .exact(hs.2 b (jc (jm (gw e) (I.ok.cab x c hfn hc)))).trans (I.base.keep b o e n hb hx)
  .obtain⟨sl,e1⟩:=I.base.slot b o e n hb hx;exact⟨sl,(hs.2 b (jc (jm (gw e) (I.ok.cab x c hfn hc)))).trans e1⟩
  .obtain⟨o',e1⟩:=I.base.there b o e hx;exact⟨o',(hs.2 b (jc (jm (gw e) (I.ok.cab x c hfn hc)))).trans e1⟩
  .by_cases hj:j=i
   .subst hj;rw[hi]at e1;cases e1;rw[a2f hiσ]at e2;cases e2;exact⟨u,r,.inr ⟨.inl hk,c,hc,hc'⟩⟩
   .rw[vf (Ne.symm hj)]at e2;obtain⟨u',r',q⟩:=hl j y v' e1 e2 e3;refine⟨u',r',?_⟩;rcases q with q|⟨k,c',e,z'⟩
    .exact .inl q
    .refine .inr ⟨k,c',e,z'.sameBut hs ?_⟩;rintro rfl;exact hj (adL hN e1 (I.ok.inj _ _ _ e hc ▸ hi))
  .by_cases hcc:c'=c
   .subst hcc;exact⟨_,hc'⟩
   .obtain⟨w2,z2⟩:=I.cell y c' e;exact⟨w2,z2.sameBut hs hcc⟩
  .obtain⟨e,n,ne,nf,d⟩:=I.pin p hp;refine⟨(hs.2 p.1 ?_).trans e,n,ne,nf,d⟩;intro q;rw[q,hoc]at e;have q':oc=p.2:=iz.inj e;exact d w' (by rw[←q'];exact aL7)
theorem adM(I:Inv X pins σ H s)(hN:X.N.Nodup)(hi:X.N[i]?=aj x)(hx:Loc X.env.scope x)(r:RelV v u)
  (h:∀s',Inv X pins (σ.set i (aj v)) H s'->Q () s')(hf:X.fn x=ak∨X.env.scope.names.lookup x=aj .local:=by first|exact .inl rfl|exact .inr rfl|assumption):dg M A (storeName X.env x u) Q E s :=
 alT I hN hi hx r (λs' I' _=>h s' I') hf
theorem Inv.call'{s':dh}(I:Inv X pins σ H s)(ho:s'.os=s.os)(u:Un (frs X.stack) ch H H' s.heap s'.heap)(hok:xQ X.prog X.w H' s'.heap)(hg:AllBare s'.gens)
  (hch:∀b∈ch,(b∈X.ex∨X.s₀.heap.objs.size<=b)/\b≠X.env.locals/\(∀x c,X.env.cells.lookup x=aj c->c≠b)/\∀p∈X.pn++pins,p.1≠b):Inv X pins σ H' s':=by
 obtain⟨h',g',d',t',o'⟩:=s';have e:o'=s.os:=ho;subst e;exact I.call (g':=g') (t':=t') (d':=d') u hok hg hch
end
abbrev XK:=Value->Option bw->Hp->Prop
noncomputable abbrev St:=List (Option V)
abbrev VK:=V->Hp->Prop
abbrev TE:=St->Hp->VK->Prop
abbrev TT:=St->Hp->(Bool->Hp->Prop)->Prop
abbrev TA:=St->Hp->(List V->Hp->Prop)->Prop
structure Ends where
 nx:St->Hp->Prop
 rt:VK
 bk:St->Hp->Prop:=λ_ _=>False
 ct:St->Hp->Prop:=λ_ _=>False
abbrev TS:=Ends->St->Hp->Prop
def EP(X:Cx)(pins:List (bw×Obj))(σ:St)(Q:VK)(u:aq)(s':dh):Prop:=∃v H',Inv X pins σ H' s'/\RelV v u/\Q v H'
def TP(X:Cx)(pins:List (bw×Obj))(σ:St)(Q:Bool->Hp->Prop)(b:Bool)(s':dh):Prop:=∃H',Inv X pins σ H' s'/\Q b H'
def AP(X:Cx)(pins:List (bw×Obj))(σ:St)(Q:List V->Hp->Prop)(us:List aq)(s':dh):Prop:=∃vs H',Inv X pins σ H' s'/\Vals vs us/\Q vs H'
set_option tactic.hygienic true in
noncomputable def SP(X:Cx)(pins:List (bw×Obj))(D:Ends)(f:Flow)(s':dh):Prop :=
 match f with
 |.next=>∃σ' H',Inv X pins σ' H' s'/\D.nx σ' H'
 |.brk=>∃σ' H',Inv X pins σ' H' s'/\D.bk σ' H'
 |.cont=>∃σ' H',Inv X pins σ' H' s'/\D.ct σ' H'
 |.ret u=>∃v σ' H',Inv X pins σ' H' s'/\RelV v u/\D.rt v H'
noncomputable def PE(X:Cx)(e:jk)(t:TE):Prop :=
 ∀(pins:List (bw×Obj))(s:dh)(σ:St)(H:Hp)(Q:VK),Inv X pins σ H s->t σ H Q->dg (fj X.prog X.w) X.A (eval e X.env) (EP X pins σ Q) X.xe s
noncomputable def PT(X:Cx)(e:jk)(t:TT):Prop :=
 ∀(pins:List (bw×Obj))(s:dh)(σ:St)(H:Hp)(Q:Bool->Hp->Prop),Inv X pins σ H s->t σ H Q->dg (fj X.prog X.w) X.A (isTrue e X.env (eval e X.env)) (TP X pins σ Q) X.xe s
noncomputable def PW(X:Cx)(e:jk)(t:TT):Prop :=
 ∀(whole:Sem aq)(pins:List (bw×Obj))(s:dh)(σ:St)(H:Hp)(Q:Bool->Hp->Prop),Inv X pins σ H s->t σ H Q->dg (fj X.prog X.w) X.A (isTrue e X.env whole) (TP X pins σ Q) X.xe s
theorem PW.pt{t:TT}(h:PW X e t):PT X e t:=h _
noncomputable def PA(X:Cx)(es:List jk)(t:TA):Prop :=
 ∀(pos:Pos)(pins:List (bw×Obj))(s:dh)(σ:St)(H:Hp)(Q:List V->Hp->Prop),Inv X pins σ H s->t σ H Q->dg (fj X.prog X.w) X.A (spliced (rm pos (jg es X.env))) (AP X pins σ Q) X.xe s
noncomputable def PS(X:Cx)(st:qp)(t:TS):Prop :=
 ∀(pins:List (bw×Obj))(s:dh)(σ:St)(H:Hp)(D:Ends),Inv X pins σ H s->t D σ H->dg (fj X.prog X.w) X.A (exec st X.env) (SP X pins D) X.xe s
noncomputable def PSs(X:Cx)(st:List qp)(t:TS):Prop :=
 ∀(pins:List (bw×Obj))(s:dh)(σ:St)(H:Hp)(D:Ends),Inv X pins σ H s->t D σ H->dg (fj X.prog X.w) X.A (execs st X.env) (SP X pins D) X.xe s
theorem cR{α:Type}{t:Sem α}{Q Q':α->dh->Prop}{M:Model}{E:aq->dh->Prop}(h:dg M A t Q E s)(hQ:∀a s,Q a s->Q' a s):dg M A t Q' E s:=wpAny_mono h hQ λ_ _ x=>x
end
variable{pins:List (bw×Obj)}{pos:Pos}
section
section
variable{X:Cx}
theorem bin{a b:jk}{ta tb:TE}(ha:PE X a ta)(hb:PE X b tb){σ:St}{H:Hp}{R:V->V->Hp->Prop}(I:Inv X pins σ H s)(h:ta σ H λx H1=>tb σ H1 λy H2=>R x y H2)
  {α:Type}{Q:α->dh->Prop}{f:aq->aq->Sem α}
  (hf:∀v u s2 x y H2,Inv X pins σ H2 s2->RelV x v->RelV y u->R x y H2->dg (fj X.prog X.w) X.A (f v u) Q X.xe s2) :
  dg (fj X.prog X.w) X.A (eval a X.env) (λv s₁=>dg (fj X.prog X.w) X.A (eval b X.env) (λu s₂=>dg (fj X.prog X.w) X.A (f v u) Q X.xe s₂) X.xe s₁) X.xe s:=by
 refine cR (ha pins s σ H _ I h) ?_;rintro v s1 ⟨x,H1,I1,r1,q1⟩;refine cR (hb pins s1 σ H1 _ I1 q1) ?_;rintro u s2 ⟨y,H2,I2,r2,q2⟩;exact hf v u s2 x y H2 I2 r1 r2 q2
noncomputable def aA2(i:Nat):TE:=λσ H Q=>∃v,σ[i]?=aj (aj v)/\Q v H
noncomputable def tC(v:V):TE:=λ_ H Q=>Q v H
theorem anS{i:Nat}(hN:X.N[i]?=aj x)(hv:Vis X.env.scope x)(hd:(x==("__debug__":Str))=ao:=by decide)(hcd:(x==("__classdict__":Str))=ao:=by decide):PE X (.Name x pos) (aA2 i):=by
 intro pins s σ H Q I h;obtain⟨v,e,h⟩:=h;obtain⟨m,hn,hl⟩:=I.loc;obtain⟨u,r,l⟩:=hl i x v hN e hv;have fin:EP X pins σ Q u s:=⟨v,H,I,r,h⟩;rcases l with⟨hk,hm⟩|⟨hk,c,hc,hcell⟩
 .exact wpAny_Name (wpAny_loadName_local I.ok.kind hk hn hm fin) hd
 .rcases hk with hk|hk
  .exact wpAny_Name (wpAny_loadName_cell I.ok.kind hk hc hcell fin) hd
  .exact wpAny_Name (wpAny_loadName_free I.ok.kind hk hc hcell fin hcd) hd
theorem aA3{i j pos}:PE X (.Constant (.int i) j pos) (tC (.int i)):=λ_ _ _ H _ I h=>wpAny_Constant_int ⟨.int i,H,I.tok _,⟨_,rfl⟩,h⟩
theorem aFY{b j pos}:PE X (.Constant (.bool b) j pos) (tC (.bl b)):=λ_ _ _ H _ I h=>Constant_bool ⟨.bl b,H,I,rfl,h⟩
theorem aA4{j pos}:PE X (.Constant .none j pos) (tC .non):=λ_ _ _ H _ I h=>Constant_none ⟨.non,H,I,rfl,h⟩
theorem aA5{x j pos}:PE X (.Constant (.str x) j pos) (tC (.str x)):=λ_ _ _ H _ I h=>Calls.Constant_str ⟨.str x,H,I.tok _,⟨_,rfl⟩,h⟩
def Gl(X:Cx)(x:Str):Prop:=X.env.kindOf x=aj .globalImplicit
theorem pJ(I:Inv X pins σ H s)(hg:Gl X x)(hm:X.mg x=aj u)(h:Q u s)
  (hd:(x==("__debug__":Str))=ao:=by decide):dg (fj X.prog X.w) X.A (eval (.Name x pos) X.env) Q E s :=
 Calls.Name_function_global I.ok.kind hg (Calls.loadGlobal_global (by rw[I.ok.glob];exact I.mod.glob.keeps I.bk) hm h) hd
theorem zA(I:Inv X pins σ H s)(hg:Gl X x)(hm:X.mg x=bh)(hv:ni x=aj u)(h:Q u s)
  (hn:x≠"__name__":=by decide)(hd:(x==("__debug__":Str))=ao:=by decide):dg (fj X.prog X.w) X.A (eval (.Name x pos) X.env) Q E s:=by
 obtain⟨mb,h1,h2⟩:=I.mod.blt;exact Calls.Name_function_global I.ok.kind hg (Calls.loadGlobal_builtin (by rw[I.ok.glob];exact I.mod.glob.keeps I.bk) hm (by rw[I.ok.blt];exact h1.keeps I.bk) ((h2 x hn).trans hv) h) hd
theorem atJ(hg:Gl X x)(hm:X.mg x=aj u)(r:RelV v u)(hd:(x==("__debug__":Str))=ao:=by decide):PE X (.Name x pos) (tC v) :=
 λ_ _ _ H _ I h=>pJ I hg hm ⟨v,H,I,r,h⟩ hd
theorem atL(hg:Gl X x)(hm:X.mg x=bh)(hv:ni x=aj u)(r:RelV v u)(hn:x≠"__name__":=by decide)(hd:(x==("__debug__":Str))=ao:=by decide):PE X (.Name x pos) (tC v) :=
 λ_ _ _ H _ I h=>zA I hg hm hv ⟨v,H,I,r,h⟩ hn hd
variable{a b:jk}{ta tb:TE}{pos:Pos}
noncomputable def PC(X:Cx)(op:qx)(a b:jk)(t:TE):Prop :=
 ∀(pins:List (bw×Obj))(s:dh)(σ:St)(H:Hp)(Q:VK),Inv X pins σ H s->t σ H Q ->
  dg (fj X.prog X.w) X.A (eval a X.env) (λv s₁=>dg (fj X.prog X.w) X.A (eval b X.env) (λu s₂=>dg (fj X.prog X.w) X.A (jd op v u) (EP X pins σ Q) X.xe s₂) X.xe s₁) X.xe s
theorem rD(b:jk)(h:op≠.In)(h2:op≠.NotIn):uw op b=ao:=by
 have e1:(op==qx.In)=ao:=by cases op<;>first|rfl|exact absurd rfl h
 have e2:(op==qx.NotIn)=ao:=by cases op<;>first|rfl|exact absurd rfl h2
 cases b<;>simp[uw,e1,e2]
noncomputable def tB(t:TE):TT:=λσ H Q=>t σ H λx H1=>∃c,x=.bl c/\Q c H1
theorem aL8{t:TE}(h:PC X op a b t)(h1:uw op b=ao:=by first|exact rD _ (by decide) (by decide)|rfl):PT X (.Compare a [op] [b] pos) (tB t):=by
 intro pins s σ H Q I hw;refine wpAny_isTrue_Compare1 (cR (h pins s σ H _ I hw) λv s1 h1=>cR h1 λu s2 h2=>cR h2 ?_) h1;rintro c s3 ⟨x,H1,I1,r1,q1⟩;obtain⟨d,rfl,q⟩:=q1;cases r1;exact uo ⟨H1,I1,q⟩
theorem aA6{e:jk}{t:TE}(h:PE X e t)(he:∀whole,isTrue e X.env whole=(do let v ←whole;standAt e.pos;holding [v] (truthy v)):=by intro _;rfl):PT X e (tB t):=by
 intro pins s σ H Q I hw;refine isTrue_plain (cR (h pins s σ H _ I hw) ?_) (he _);rintro v s1 ⟨x,H1,I1,r1,q1⟩;obtain⟨d,rfl,q⟩:=q1;cases r1;exact uo ⟨H1,I1,q⟩
variable{rest:List jk}
noncomputable def aFZ(t u:TT):TT:=λσ H Q=>t σ H λc H1=>if c=ak then u σ H1 Q else Q ao H1
noncomputable def tOr(t u:TT):TT:=λσ H Q=>t σ H λc H1=>if c=ak then Q ak H1 else u σ H1 Q
noncomputable def aL9(t:TT):TT:=λσ H Q=>t σ H λc H1=>Q (!c) H1
theorem atM(ha:PT X a tA):PW X (.BoolOp .And [a] pos) tA:=by
 intro wh pins s σ H Q I h;refine isTrue_and (cR (ha pins s σ H Q I h) λc s1 e=>?_);cases c with
 |true=>exact isTrue_and_nil e
 |false=>exact e
theorem aA7(ha:PT X a tA):PW X (.BoolOp .Or [a] pos) tA:=by
 intro wh pins s σ H Q I h;refine isTrue_or (cR (ha pins s σ H Q I h) λc s1 e=>?_);cases c with
 |false=>exact isTrue_or_nil e
 |true=>exact e
theorem aA8(ha:PT X a tA)(hb:PW X (.BoolOp .And (b::rest) pos) tB'):PW X (.BoolOp .And (a::b::rest) pos) (aFZ tA tB'):=by
 intro wh pins s σ H Q I h;refine isTrue_and (cR (ha pins s σ H _ I h) ?_);rintro c s1 ⟨H1,I1,q1⟩;cases c with
 |true=>exact hb wh pins s1 σ H1 Q I1 q1
 |false=>exact⟨H1,I1,q1⟩
theorem aG0(ha:PT X a tA)(hb:PW X (.BoolOp .Or (b::rest) pos) tB'):PW X (.BoolOp .Or (a::b::rest) pos) (tOr tA tB'):=by
 intro wh pins s σ H Q I h;refine isTrue_or (cR (ha pins s σ H _ I h) ?_);rintro c s1 ⟨H1,I1,q1⟩;cases c with
 |true=>exact⟨H1,I1,q1⟩
 |false=>exact hb wh pins s1 σ H1 Q I1 q1
theorem aA9(ha:PT X a tA):PT X (.UnaryOp .Not a pos) (aL9 tA):=by
 intro pins s σ H Q I h;exact isTrue_not (ha pins s σ H (λc H1=>Q (!c) H1) I h)
noncomputable def aG1(ta tb:TE):TE:=λσ H Q=>ta σ H λx H1=>∃c,x=.bl c/\if c=ak then tb σ H1 Q else Q (.bl ao) H1
noncomputable def aLA(ta tb:TE):TE:=λσ H Q=>ta σ H λx H1=>∃c,x=.bl c/\if c=ak then Q (.bl ak) H1 else tb σ H1 Q
noncomputable def aG2(ta:TE):TE:=λσ H Q=>ta σ H λx H1=>∃c,x=.bl c/\Q (.bl (!c)) H1
theorem aAA{op}{t:TE}(h:PE X a t):PE X (.BoolOp op [a] pos) t:=λpins s σ H Q I hw=>BoolOp_one (h pins s σ H Q I hw)
theorem aAB(ha:PE X a ta)(hb:PE X (.BoolOp .And (b::rest) pos) tb):PE X (.BoolOp .And (a::b::rest) pos) (aG1 ta tb):=by
 intro pins s σ H Q I h;refine BoolOp_and (cR (ha pins s σ H _ I h) ?_);rintro v s1 ⟨x,H1,I1,r1,q1⟩;obtain⟨c,rfl,q1⟩:=q1;cases r1;refine uo ?_;cases c with
 |true=>exact hb pins s1 σ H1 Q I1 q1
 |false=>exact⟨.bl ao,H1,I1,rfl,q1⟩
theorem aG3(ha:PE X a ta)(hb:PE X (.BoolOp .Or (b::rest) pos) tb):PE X (.BoolOp .Or (a::b::rest) pos) (aLA ta tb):=by
 intro pins s σ H Q I h;refine BoolOp_or (cR (ha pins s σ H _ I h) ?_);rintro v s1 ⟨x,H1,I1,r1,q1⟩;obtain⟨c,rfl,q1⟩:=q1;cases r1;refine uo ?_;cases c with
 |false=>exact hb pins s1 σ H1 Q I1 q1
 |true=>exact⟨.bl ak,H1,I1,rfl,q1⟩
theorem aAC(ha:PE X a ta):PE X (.UnaryOp .Not a pos) (aG2 ta):=by
 intro pins s σ H Q I h;refine UnaryOp_ (cR (ha pins s σ H _ I h) ?_);rintro v s1 ⟨x,H1,I1,r1,q1⟩;obtain⟨c,rfl,q1⟩:=q1;cases r1;exact not_of (uo ⟨.bl (!c),H1,I1,rfl,q1⟩)
end
end
variable{n:Nat}{cm:Bool}
section
noncomputable def yJ(K:iw)(H:Hp)(a:bw)(xs:List V):Prop :=
 Rd H a (.lst xs) ∨
  ∃(o:Obj)(its:Array aq)(n:Nat),K.lookup a=aj o/\o.cls=.type "list"/\o.dict=bh/\o.data=.seq its n/\its.size<=cu/\Vals xs its.toList
noncomputable def yK(K:iw)(H:Hp)(a:bw)(xs:List V):Prop :=
 Rd H a (.tup xs) ∨
  ∃(o:Obj)(its:Array aq)(n:Nat),K.lookup a=aj o/\o.cls=.type "tuple"/\o.data=.seq its n/\its.size<=cu/\Vals xs its.toList
noncomputable def aLB:aq->Option V
 |.none=>aj .non
 |.bool b=>aj (.bl b)
 |.int i _=>aj (.int i)
 |.str x _=>aj (.str x)
 |.bytes b _=>aj (.byt b)
 |.float b _=>aj (.flt b)
 |.ref a=>aj (.ref a)
 |.type n=>aj (.ty n)
 |_=>bh
theorem RelV.abs{x:V}(r:RelV x u):aLB u=aj x:=by
 cases x with
 |non=>cases r;rfl
 |bl _=>cases r;rfl
 |int _=>obtain⟨t,rfl⟩:=r;rfl
 |str _=>obtain⟨t,rfl⟩:=r;rfl
 |byt _=>obtain⟨t,rfl⟩:=r;rfl
 |flt _=>obtain⟨t,rfl⟩:=r;rfl
 |ref _=>cases r;rfl
 |ty _=>cases r;rfl
theorem RelV.inj{x:V}(r:RelV x u)(q:RelV y u):x=y:=iz.inj (r.abs.symm.trans q.abs)
theorem Vals.inj:∀{xs ys:List V}{us:List aq},Vals xs us->Vals ys us->xs=ys
 |_,_,_,.nil,.nil=>rfl
 |_,_,_,.cons r t,.cons r' t'=>by rw[r.inj r',Vals.inj t t']
section
variable{X:Cx}{pins:List (bw×Obj)}{s:dh}{a:bw}{xs:List V}
theorem yJ.of{K:iw}(h:H a=aj (.lst xs)):yJ K H a xs:=.inl (.inl h)
theorem yK.of{K:iw}(h:H a=aj (.tup xs)):yK K H a xs:=.inl (.inl h)
theorem Inv.list(I:Inv X pins σ H s)(h:yJ X.K H a xs):∃its:List aq,Vals xs its/\PlainL s.heap a its.toArray/\xs.length<=cu:=by
 rcases h with h|⟨o,its,n,hk,hc,hd,hs,hz,r⟩
 .obtain⟨z,its,n,r,e⟩:=h.ok I.hok;exact⟨its,r,⟨_,n,e,rfl,rfl,rfl⟩,z⟩
 .refine⟨its.toList,r,⟨o,n,I.kIn a o hk,hc,hd,by simpa using hs⟩,?_⟩;have e:=r.length;simp only[vo]at e;omega
theorem Inv.tuple(I:Inv X pins σ H s)(h:yK X.K H a xs):∃its:List aq,Vals xs its/\IsTup s.heap a its.toArray/\xs.length<=cu:=by
 rcases h with h|⟨o,its,n,hk,hc,hs,hz,r⟩
 .obtain⟨z,its,r,p⟩:=h.ok I.hok;exact⟨its,r,p,z⟩
 .refine⟨its.toList,r,⟨o,I.kIn a o hk,hc,n,by simpa using hs⟩,?_⟩;have e:=r.length;simp only[vo]at e;omega
theorem Inv.anT(I:Inv X pins σ H s)(h:yJ X.K H a xs)(h':yJ X.K H a ys):xs=ys:=by
 obtain⟨its,r,⟨o,n,e,_,_,d⟩,_⟩:=I.list h;obtain⟨its',r',⟨o',n',e',_,_,d'⟩,_⟩:=I.list h';rw[e]at e';cases e';rw[d]at d';injection d' with d1 _;have:its=its':=by simpa using congrArg Array.toList d1
 subst this;exact r.inj r'
theorem Inv.xA(I:Inv X pins σ H s)(h:yK X.K H a xs)(h':yK X.K H a ys):xs=ys:=by
 obtain⟨its,r,⟨o,e,_,n,d⟩,_⟩:=I.tuple h;obtain⟨its',r',⟨o',e',_,n',d'⟩,_⟩:=I.tuple h';rw[e]at e';cases e';rw[d]at d';injection d' with d1 _;have:its=its':=by simpa using congrArg Array.toList d1
 subst this;exact r.inj r'
end
noncomputable abbrev Cx.wish(X:Cx)(E:aq->dh->Prop):Cx:={X with xe:=E}
noncomputable abbrev Cx.nox(X:Cx):Cx:=X.wish λ_ _=>False
theorem Cx.Ok.wish{X:Cx}(ok:X.Ok)(E:aq->dh->Prop):(X.wish E).Ok :=
 ⟨ok.mod,ok.kind,ok.glob,ok.blt,ok.above,ok.inj,ok.has,ok.cab,ok.hd,ok.frames,ok.stk,ok.exf,ok.bs,ok.bsz,ok.abC,ok.adK,ok.uT,ok.frf⟩
theorem Cx.Ok.qJ{X:Cx}(ok:(X.wish E).Ok):X.Ok :=
 ⟨ok.mod,ok.kind,ok.glob,ok.blt,ok.above,ok.inj,ok.has,ok.cab,ok.hd,ok.frames,ok.stk,ok.exf,ok.bs,ok.bsz,ok.abC,ok.adK,ok.uT,ok.frf⟩
section
variable{X:Cx}{pins:List (bw×Obj)}{s:dh}
theorem Inv.wish(I:Inv X pins σ H s)(E:aq->dh->Prop):Inv (X.wish E) pins σ H s:=⟨I.ok.wish E,I.os,I.bare,I.base,I.loc,I.cell,I.free,I.nF,I.pin,I.hok,I.len,I.hnd,I.tup⟩
theorem Inv.qJ(I:Inv (X.wish E) pins σ H s):Inv X pins σ H s:=⟨I.ok.qJ,I.os,I.bare,I.base,I.loc,I.cell,I.free,I.nF,I.pin,I.hok,I.len,I.hnd,I.tup⟩
set_option tactic.hygienic true in
theorem SP.qJ{D:Ends}(h:SP (X.wish E) pins D f s'):SP X pins D f s':=by
 cases f with
 |next=>obtain⟨σ',H',I,q⟩:=h;exact⟨σ',H',I.qJ,q⟩
 |brk=>obtain⟨σ',H',I,q⟩:=h;exact⟨σ',H',I.qJ,q⟩
 |cont=>obtain⟨σ',H',I,q⟩:=h;exact⟨σ',H',I.qJ,q⟩
 |ret u=>obtain⟨v,σ',H',I,r,q⟩:=h;exact⟨v,σ',H',I.qJ,r,q⟩
theorem PE.nox{t:TE}(h:PE X.nox e t):PE X e t:=λpins s σ H Q I hw =>
 qm (h pins s σ H Q (I.wish _) hw) (λ_ _ ⟨v,H',I',r,q⟩=>⟨v,H',I'.qJ,r,q⟩) λ_ _ z=>False.elim z
theorem PT.nox{t:TT}(h:PT X.nox e t):PT X e t:=λpins s σ H Q I hw =>
 qm (h pins s σ H Q (I.wish _) hw) (λ_ _ ⟨H',I',q⟩=>⟨H',I'.qJ,q⟩) λ_ _ z=>False.elim z
theorem PSs.nox{st:List qp}{t:TS}(h:PSs X.nox st t):PSs X st t:=λpins s σ H D I hw =>
 qm (h pins s σ H D (I.wish _) hw) (λ_ _ q=>q.qJ) λ_ _ z=>False.elim z
end
section
variable{X:Cx}{st:qp}{rest:List qp}{t u:TS}{te:TE}{pos:Pos}
noncomputable def ayE:TS:=λD σ H=>D.nx σ H
noncomputable def aG4(t u:TS):TS:=λD σ H=>t {D with nx:=u D} σ H
theorem atN:PSs X [] ayE:=λ_ _ σ H _ I h=>wpAny_execs_nil ⟨σ,H,I,h⟩
set_option tactic.hygienic true in
theorem anU(h1:PS X st t)(h2:PSs X rest u):PSs X (st::rest) (aG4 t u):=by
 intro pins s σ H D I h;refine wpAny_execs_cons (cR (h1 pins s σ H {D with nx:=u D} I h) λf s1 q=>?_);cases f with
 |next =>
  obtain⟨σ',H',I',q⟩:=q;exact h2 pins s1 σ' H' D I' q
 |ret v=>exact q
 |brk=>exact q
 |cont=>exact q
set_option tactic.hygienic true in
theorem atO(h1:PS X st t):PSs X [st] t:=by
 intro pins s σ H D I h;refine wpAny_execs_cons (cR (h1 pins s σ H D I h) λf s1 q=>?_);cases f with
 |next=>exact wpAny_execs_nil q
 |ret v=>exact q
 |brk=>exact q
 |cont=>exact q
theorem atP:PS X (.Pass pos) ayE:=λ_ _ σ H _ I h=>wpAny_Pass ⟨σ,H,I,h⟩
theorem Inv.quiet(I:Inv X pins σ H s):interactive X.env=ao:=by simp[interactive,I.ok.kind]
noncomputable def aG5(te:TE):TS:=λD σ H=>te σ H λ_ H1=>D.nx σ H1
theorem atQ(he:PE X e te)(hs:a0z e bh pos.line X.env=pure ao:=by rfl):PS X (.Expr e pos) (aG5 te):=by
 intro pins s σ H D I h;exact wpAny_Expr_any (cR (he pins s σ H _ I h) (by rintro v s1 ⟨x,H1,I1,r1,q1⟩;exact⟨σ,H1,I1,q1⟩)) I.quiet hs
noncomputable def aLC(te:TE):TS:=λD σ H=>te σ H D.rt
theorem aAD(he:PE X e te):PS X (.Return (aj e) pos) (aLC te):=by
 intro pins s σ H D I h;exact wpAny_Return_some (cR (he pins s σ H _ I h) (by rintro v s1 ⟨x,H1,I1,r1,q1⟩;exact⟨x,σ,H1,I1,r1,q1⟩))
noncomputable def aLD(c:TT)(t u:TS):TS:=λD σ H=>c σ H λb H1=>if b=ak then t D σ H1 else u D σ H1
theorem aG6{a b:List qp}(hc:PT X c tc)(ha:PSs X a t)(hb:PSs X b u):PS X (.If c a b pos) (aLD tc t u):=by
 intro pins s σ H D I h;refine wpAny_If (cR (hc pins s σ H _ I h) ?_);rintro d s1 ⟨H1,I1,q1⟩;cases d with
 |true=>exact ha pins s1 σ H1 D I1 q1
 |false=>exact hb pins s1 σ H1 D I1 q1
end
abbrev TG:=V->St->Hp->(St->Hp->Prop)->Prop
abbrev TGs:=List V->St->Hp->(St->Hp->Prop)->Prop
noncomputable def PG(X:Cx)(target:jk)(t:TG):Prop :=
 ∀(pins:List (bw×Obj))(s:dh)(σ:St)(H:Hp)(v:V)(u:aq)(Q:St->Hp->Prop),Inv X pins σ H s->RelV v u->t v σ H Q ->
  dg (fj X.prog X.w) X.A (assign target X.env u) (λ_ s'=>∃σ' H',Inv X pins σ' H' s'/\Q σ' H') X.xe s
noncomputable def PGs(X:Cx)(ts:List jk)(t:TGs):Prop :=
 ∀(pins:List (bw×Obj))(s:dh)(σ:St)(H:Hp)(vs:List V)(us:List aq)(Q:St->Hp->Prop),Inv X pins σ H s->Vals vs us->t vs σ H Q ->
  dg (fj X.prog X.w) X.A (assignInOrder ((a1a ts X.env).map (·.2)) us) (λ_ s'=>∃σ' H',Inv X pins σ' H' s'/\Q σ' H') X.xe s
variable{i:Nat}
section
variable{X:Cx}{pos:Pos}
noncomputable def ajB(i:Nat):TG:=λv σ H Q=>Q (σ.set i (aj v)) H
theorem abF(hN:X.N.Nodup)(hi:X.N[i]?=aj x)(hx:Loc X.env.scope x)(hf:X.fn x=ak∨X.env.scope.names.lookup x=aj .local:=by first|exact .inl rfl|exact .inr rfl|assumption):PG X (.Name x pos) (ajB i):=by
 intro pins s σ H v u Q I r h;exact wpAny_assign_Name (adM I hN hi hx r (λs' I'=>⟨_,H,I',h⟩) hf)
noncomputable def aG8:TGs:=λvs σ H Q=>vs=[]/\Q σ H
noncomputable def ayG(t:TG)(u:TGs):TGs:=λvs σ H Q=>∃v r,vs=v::r/\t v σ H λσ' H'=>u r σ' H' Q
theorem atR:PGs X [] aG8:=by
 intro pins s σ H vs us Q I r h;obtain⟨e,h⟩:=h;subst e;cases r;exact assignInOrder_nil ⟨σ,H,I,h⟩
theorem anV{t:TG}(h1:PG X e t)(h2:PGs X es u)
  (hs:(a1a (e::es) X.env).map (·.2)=assign e X.env::(a1a es X.env).map (·.2):=by rfl):PGs X (e::es) (ayG t u):=by
 intro pins s σ H vs us Q I r h;obtain⟨v,vr,e1,h⟩:=h;subst e1;cases r with
 |cons r rr =>
  rw[hs];refine assignInOrder_cons (cR (h1 pins s σ H _ _ _ I r h) ?_);rintro _ s1 ⟨σ1,H1,I1,q1⟩;exact h2 pins s1 σ1 H1 _ _ Q I1 rr q1
noncomputable def aLE(K:iw)(n:Nat)(t:TGs):TG:=λv σ H Q=>∃a xs,v=.ref a/\yK K H a xs/\xs.length=n/\t xs σ H Q
theorem aAE{k:Nat}{t:TGs}(hc:X.calm=ak)(h:PGs X es t)
  (hn:(a1a es X.env).length=n:=by rfl)(hst:(a1a es X.env).findIdx? (·.1)=bh:=by rfl):PG X (.Tuple es k pos) (aLE X.K n t):=by
 intro pins s σ H v u Q I r hw;obtain⟨a,xs,e1,hq,hl,hw⟩:=hw;subst e1;cases r;obtain⟨its,rv,ht,hz⟩:=I.tuple hq;refine assign_Tuple_tuple (I.ok.hd hc) ht (by simp[hn,←hl,rv.length]) hst λh' hx=>?_;have I1:Inv X pins σ H {s with heap:=h' }:=I.kept (t':=s.toks) λb o e=>hx b o (jc (gw e)) e;exact h pins _ σ H xs _ Q I1 (by simpa using rv) hw
noncomputable def aLF(te:TE)(g:TG):TS:=λD σ H=>te σ H λx H1=>g x σ H1 D.nx
theorem aAF(hN:X.N.Nodup)(hi:X.N[i]?=aj x)(hx:Loc X.env.scope x)(he:PE X e te)(hs:a0z e (aj (.Name x pos')) pos.line X.env=pure ao:=by rfl)(hf:X.fn x=ak∨X.env.scope.names.lookup x=aj .local:=by first|exact .inl rfl|exact .inr rfl|assumption) :
  PS X (.Assign [.Name x pos'] e pos) (aLF te (ajB i)):=by
 intro pins s σ H D I h;refine wpAny_Assign_Name (cR (he pins s σ H _ I h) ?_) hs;rintro v s1 ⟨y,H1,I1,r1,q1⟩;exact adM I1 hN hi hx r1 (λs2 I2=>⟨_,H1,I2,q1⟩) hf
end
section
variable{X:Cx}{pos:Pos}
noncomputable def aAG(c:TT)(tb:TS):TS:=λD σ H=>∃W:Nat->St->Hp->Prop,(∃m,W m σ H)/\∀m σ H,W m σ H ->
 c σ H λb H1=>if b=ak then ∃N:St->Hp->Prop,(∀σ' H',N σ' H'->∃m',m'<m/\W m' σ' H')/\tb {D with nx:=N,ct:=N,bk:=D.nx} σ H1 else D.nx σ H1
set_option tactic.hygienic true in
theorem anW(hp:a1y (fj X.prog X.w) X.A X.env X.xe)(hc:PT X c tc)(hb:PSs X body tb):PS X (.While c body [] pos) (aAG tc tb):=by
 intro pins s σ H D I h;obtain⟨W,⟨m0,w0⟩,turn⟩:=h;refine wpAny_While (codeAny_whileLoop (λn s'=>∃σ' H',Inv X pins σ' H' s'/\W n σ' H') ?_ m0 ⟨σ,H,I,w0⟩);rintro n s1 ⟨σ1,H1,I1,w1⟩;refine a0f hp (cR (hc pins s1 σ1 H1 _ I1 (turn n σ1 H1 w1)) ?_);rintro b s2 ⟨H2,I2,q2⟩;cases b with
 |true =>
  obtain⟨N,hN,q2⟩:=q2;rw[if_pos rfl];refine a0f hp (cR (hb pins s2 σ1 H2 _ I2 q2) λf s3 q3=>?_);cases f with
  |next =>
   obtain⟨σ3,H3,I3,n3⟩:=q3;obtain⟨m',hm,w3⟩:=hN σ3 H3 n3;exact⟨m',hm,σ3,H3,I3,w3⟩
  |cont =>
   obtain⟨σ3,H3,I3,n3⟩:=q3;obtain⟨m',hm,w3⟩:=hN σ3 H3 n3;exact⟨m',hm,σ3,H3,I3,w3⟩
  |brk=>exact q3
  |ret v=>exact q3
 |false =>
  rw[if_neg oh];exact wpAny_execs_nil ⟨σ1,H2,I2,q2⟩
end
structure It where
 go:Nat->Hp->Prop
 yld:Nat->Hp->V->Hp->Prop
 stop:Nat->Hp->Prop
noncomputable def a1W(X:Cx)(pins:List (bw×Obj))(H:Hp)(b:bw):Prop :=
 H b=bh/\b≠X.env.locals/\b∉X.fs/\(b∈X.ex∨X.s₀.heap.objs.size<=b)/\(∀x c,X.env.cells.lookup x=aj c->c≠b)/\∀p∈X.pn++pins,p.1≠b
theorem Inv.a08(I:Inv X pins σ H s)(hb:s.heap.objs.size<=b)(hn:H' b=bh):a1W X pins H' b:=by
 refine⟨hn,a0e (jm I.lt hb),I.aL6 hb,.inr (qj I.sz hb),λx c e z=>?_,λp hp z=>?_⟩
 .obtain⟨v,q⟩:=I.cell x c e;exact absurd (jm q.lt (by rw[z];exact hb)) (ur _)
 .exact absurd (jm (gw (I.pin p hp).1) (by rw[z];exact hb)) (ur _)
structure Turn(cm:Bool)(tl:List (bw×List V))(P:jo)(w:jf)(K:iw)(tg:jk)(J:It)(fp:List bw)(it:bw)(tn:Nat->jj->Prop):Prop where
 mem:it∈fp
 obj:∀i h,tn i h->∀b∈fp,∃o,h.get? b=aj o/\∀v,o.data≠.cell v
 keep:∀i h h',tn i h->(∀b∈fp,∀o,h.get? b=aj o->h'.get? b=aj o)->tn i h'
 item:∀(X:Cx),X.prog=P->X.w=w->X.K=K->(cm=ak->X.calm=ak)->(∀p∈tl,p∈X.tp)->∀(i:Nat)(pins:List (bw×Obj))(s:dh)(σ:St)(H:Hp)(E:aq->dh->Prop),Inv X pins σ H s->(∀b∈fp,a1W X pins H b)->tn i s.heap->J.go i H ->
  dg (fj P w) X.A (a0c (.ref it)) (λr s1=>∃u,r=aj u /\
   dg (fj P w) X.A (a1t tg (.ref it) u) (λ_ s2=>∃x H',Inv X pins σ H' s2/\RelV x u/\J.yld i H x H'/\tn (i+1) s2.heap/\∀b∈fp,H' b=bh) E s1) E s
 done:∀(X:Cx),X.prog=P->X.w=w->X.K=K->(cm=ak->X.calm=ak)->(∀p∈tl,p∈X.tp)->∀(i:Nat)(pins:List (bw×Obj))(s:dh)(σ:St)(H:Hp)(E:aq->dh->Prop),Inv X pins σ H s->(∀b∈fp,a1W X pins H b)->tn i s.heap->J.stop i H ->
  dg (fj P w) X.A (a0c (.ref it)) (λr s1=>r=bh/\Inv X pins σ H s1) E s
 self:∀(A:jr)(i:Nat)(s:dh)(Q:aq->dh->Prop)(E:aq->dh->Prop),tn i s.heap->Q (.ref it) s->dg (fj P w) A (pyIter (.ref it)) Q E s
abbrev TI:=St->Hp->(It->Hp->Prop)->Prop
noncomputable def PIE(X:Cx)(pins:List (bw×Obj))(σ:St)(tg:jk)(R:It->Hp->Prop)(itv:aq)(s2:dh):Prop :=
 ∃(it:bw)(fp:List bw)(tn:Nat->jj->Prop)(J:It)(H':Hp),itv=.ref it/\Inv X pins σ H' s2/\Turn X.calm X.tp X.prog X.w X.K tg J fp it tn/\tn 0 s2.heap/\(∀b∈fp,a1W X pins H' b)/\R J H'
noncomputable def PI(X:Cx)(tg iter:jk)(wi:TI):Prop :=
 ∀(pins:List (bw×Obj))(s:dh)(σ:St)(H:Hp)(R:It->Hp->Prop),Inv X pins σ H s->wi σ H R ->
  dg (fj X.prog X.w) X.A (eval iter X.env) (λv s1=>dg (fj X.prog X.w) X.A (pyIter v) (PIE X pins σ tg R) X.xe s1) X.xe s
theorem a3S{n:String}(ho:s.heap.get? it=aj o)(hc:o.cls=.type n)(hd:o.data=.fields vs)
  (hn:["enumerate","zip","dict_itemiterator","dict_reverseitemiterator","odict_iterator","itertools.zip_longest","itertools.pairwise"].contains n=ao)(hQ:Q () s):dg M A (a1t tg (.ref it) u) Q E s:=by
 unfold a1t
 cases tg<;>first
  |exact cj hQ
  |(cases u<;>first
    |exact cj hQ
    |(refine au (wpAny_load ho ?_)
      rw[hc,hd];show dg M A (if(["enumerate","zip","dict_itemiterator","dict_reverseitemiterator","odict_iterator","itertools.zip_longest","itertools.pairwise"].contains n&&vs[0]?==aj (a1k _))=ak then _ else _) Q E s;rw[if_neg (by intro h;rw[hn,Bool.false_and]at h;cases h)];exact cj hQ))
noncomputable def Itl(K:iw)(a:bw):It :=
 ⟨λi H=>∃xs x,yJ K H a xs/\xs[i]?=aj x,λi H x H'=>H'=H/\∀xs,yJ K H a xs->xs[i]?=aj x,λi H=>∃xs,yJ K H a xs/\xs.length<=i⟩
noncomputable def Itt(K:iw)(a:bw):It :=
 ⟨λi H=>∃xs x,yK K H a xs/\xs[i]?=aj x,λi H x H'=>H'=H/\∀xs,yK K H a xs->xs[i]?=aj x,λi H=>∃xs,yK K H a xs/\xs.length<=i⟩
noncomputable def Itr(lo:Int)(n:Nat):It:=⟨λi _=>i<n,λi H x H'=>H'=H/\x=.int (lo+i),λi _=>n<=i⟩
theorem a9S{w:jf}{K:iw}(a it:bw):Turn cm tl P w K tg (Itl K a) [it] it (λi h=>h.IsListIter it a i) where
 mem:=by simp
 obj:=λi h st b hb=>by
  have e:b=it:=by simpa using hb
  subst e;obtain⟨o,e,c,d⟩:=st;exact⟨o,e,λv z=>by rw[d]at z;cases z⟩
 keep:=λi h h' st k=>st.at λo e=>k it (by simp) o e
 item:=by
  intro X hP hw hK hc ht i pins s σ H E I hf st hg;subst hP hw hK;obtain⟨xs,x,hq,hx⟩:=hg;obtain⟨its,rv,p,hz⟩:=I.list hq;obtain⟨u,hu,ru⟩:=rv.get hx;obtain⟨f0,f1,f2,f3,f4,f5⟩:=hf it (by simp);refine wpAny_pyNext_list_item st p.isList (x:=u) (by simpa using hu) λh' st' sb=>?_;have I1:Inv X pins σ H {s with heap:=h' }:=I.turned (t':=s.toks) (λb o hb e=>(sb.2 b hb).trans e) f0 f1 f3 f4 f5;obtain⟨o,e,c,d⟩:=id st';exact⟨u,rfl,a3S (s:={s with heap:=h' }) e c d (by decide) ⟨x,H,I1,ru,⟨rfl,λys hy=>by rw[I.anT hy hq];exact hx⟩,st',λb hb=>(hf b hb).1⟩⟩
 done:=by
  intro X hP hw hK hc ht i pins s σ H E I hf st hg;subst hP hw hK;obtain⟨xs,hq,hx⟩:=hg;obtain⟨its,rv,p,hz⟩:=I.list hq;obtain⟨f0,f1,f2,f3,f4,f5⟩:=hf it (by simp);have hl:=rv.length;exact alN (I.hnd.heap I.hok) st p.isList (by simp;omega) λh' eb=>⟨rfl,I.turned (t':=s.toks) (λb o hb e=>eb b o hb e) f0 f1 f3 f4 f5⟩
 self:=λ_ _ _ _ _ st h=>wpAny_pyIter_listiter st h
theorem a65{w:jf}{K:iw}(a it:bw):Turn cm tl P w K tg (Itt K a) [it] it (λi h=>h.IsTupleIter it a i) where
 mem:=by simp
 obj:=λi h st b hb=>by
  have e:b=it:=by simpa using hb
  subst e;obtain⟨o,e,c,d⟩:=st;exact⟨o,e,λv z=>by rw[d]at z;cases z⟩
 keep:=λi h h' st k=>st.at λo e=>k it (by simp) o e
 item:=by
  intro X hP hw hK hc ht i pins s σ H E I hf st hg;subst hP hw hK;obtain⟨xs,x,hq,hx⟩:=hg;obtain⟨its,rv,p,hz⟩:=I.tuple hq;obtain⟨u,hu,ru⟩:=rv.get hx;obtain⟨f0,f1,f2,f3,f4,f5⟩:=hf it (by simp);refine wpAny_pyNext_tuple_item st (show s.heap.IsTuple a its.toArray from p) (x:=u) (by simpa using hu) λh' st' sb=>?_;have I1:Inv X pins σ H {s with heap:=h' }:=I.turned (t':=s.toks) (λb o hb e=>(sb.2 b hb).trans e) f0 f1 f3 f4 f5;obtain⟨o,e,c,d⟩:=id st';exact⟨u,rfl,a3S (s:={s with heap:=h' }) e c d (by decide) ⟨x,H,I1,ru,⟨rfl,λys hy=>by rw[I.xA hy hq];exact hx⟩,st',λb hb=>(hf b hb).1⟩⟩
 done:=by
  intro X hP hw hK hc ht i pins s σ H E I hf st hg;subst hP hw hK;obtain⟨xs,hq,hx⟩:=hg;obtain⟨its,rv,p,hz⟩:=I.tuple hq;obtain⟨f0,f1,f2,f3,f4,f5⟩:=hf it (by simp);have hl:=rv.length;exact anO (I.hnd.heap I.hok) st (show s.heap.IsTuple a its.toArray from p) (by simp;omega) λh' eb=>⟨rfl,I.turned (t':=s.toks) (λb o hb e=>eb b o hb e) f0 f1 f3 f4 f5⟩
 self:=λ_ _ _ _ _ st h=>wpAny_pyIter_tupleiter st h
theorem agZ{w:jf}{K:iw}(it:bw)(lo:Int)(n:Nat):Turn cm tl P w K tg (Itr lo n) [it] it (λi h=>IsRangeIter h it (lo+(i:Nat)*1) ((n:Int) - (i:Nat)) 1) where
 mem:=by simp
 obj:=λi h st b hb=>by
  have e:b=it:=by simpa using hb
  subst e
  exact⟨_,st,λv z=>by
   have z':Data.fields _=Data.cell v:=z;cases z'⟩
 keep:=λi h h' st k=>k it (by simp) _ st
 item:=by
  intro X hP hw hK hc ht i pins s σ H E I hf st hg;subst hP hw hK;obtain⟨f0,f1,f2,f3,f4,f5⟩:=hf it (by simp);have hi:i<n:=hg;refine wpAny_pyNext_range_item st (by omega) λh' st' kk=>?_;have I1:Inv X pins σ H {s with heap:=h',toks:=s.toks+1}:=I.turned (λb o hb e=>(kk.2 b hb).trans e) f0 f1 f3 f4 f5
  have st2:IsRangeIter h' it (lo+((i+1:Nat):Int)*1) ((n:Int) - ((i+1:Nat):Int)) 1:=by
   have e1:lo+((i:Nat):Int)*1+1=lo+((i+1:Nat):Int)*1:=by omega
   have e2:(n:Int) - ((i:Nat):Int) - 1=(n:Int) - ((i+1:Nat):Int):=by omega
   rw[←e1,←e2];exact st'
  refine⟨_,rfl,a3S (s:={s with heap:=h',toks:=s.toks+1}) (n:="range_iterator") st2 rfl rfl (by decide) ⟨.int (lo+i),H,I1,⟨s.toks,?_⟩,⟨rfl,rfl⟩,st2,λb hb=>(hf b hb).1⟩⟩;rw[Int.mul_one]
 done:=by
  intro X hP hw hK hc ht i pins s σ H E I hf st hg;subst hP hw hK;obtain⟨f0,f1,f2,f3,f4,f5⟩:=hf it (by simp);exact anP (I.hnd.heap I.hok) st (by have:n<=i:=hg;omega) λh' eb=>⟨rfl,I.turned (t':=s.toks) (λb o hb e=>eb b o hb e) f0 f1 f3 f4 f5⟩
 self:=λ_ _ _ _ _ st h=>wpAny_pyIter_rangeiter st h
end
section
section
variable{X:Cx}
theorem anY{lo hi:Int}{t v:Tok}{tk:Nat}(I:Inv X pins σ H s)(h1:-(2^62)<=lo)(h2:lo<2^62)(h3:-(2^62)<=hi)(h4:hi<2^62)
  (q:R (Itr lo (hi - lo).toNat) H):dg (fj X.prog X.w) X.A (pyIter (.ref s.heap.objs.size)) (PIE X pins σ tg R) E {s with heap:=s.heap.push {cls:=.type "range",data:=.fields #[.int lo t,.int hi u,.int 1 v]},toks:=tk}:=by
 refine wpAny_pyIter_range (IsRange.new ..) (small_one h1 h2 h3 h4) ?_;have I1:Inv X pins σ H {s with heap:=s.heap.push {cls:=.type "range",data:=.fields #[.int lo t,.int hi u,.int 1 v]},toks:=tk}:=I.kept λb o e=>cg _ e
 refine⟨(s.heap.push {cls:=.type "range",data:=.fields #[.int lo t,.int hi u,.int 1 v]}).objs.size,[(s.heap.push {cls:=.type "range",data:=.fields #[.int lo t,.int hi u,.int 1 v]}).objs.size],_,_,H,rfl,
  I1.kept (t':=tk) λb o e=>cg _ e,agZ _ lo (hi - lo).toNat,?_,λb hb=>?_,q⟩
 .have e1:lo+((0:Nat):Int)*1=lo:=by simp
  have e2:(((hi - lo).toNat:Nat):Int) - ((0:Nat):Int)=Builtin.Range.rangeSize lo hi 1:=by rw[rangeSize_one];split<;>omega
  show IsRangeIter _ _ (lo+((0:Nat):Int)*1) ((((hi - lo).toNat:Nat):Int) - ((0:Nat):Int)) 1;rw[e1,e2];exact ig _ rfl
 .have e:b=(s.heap.push {cls:=.type "range",data:=.fields #[.int lo t,.int hi u,.int 1 v]}).objs.size:=by simpa using hb
  subst e;exact I1.a08 (dz _) (I1.hok.fresh (dz _))
noncomputable def aGA(ta:TA):TI:=λσ H R=>ta σ H λvs H1=>∃j:Int,vs=[.int j]/\-(2^62)<=j/\j<2^62/\R (Itr 0 j.toNat) H1
theorem a9T{a:jk}{p:Pos}(hg:Gl X "range")(hm:X.mg "range"=bh)(ha:PA X [a] ta)(hs:jg [a] X.env=[(ao,eval a X.env)]:=by rfl):PI X tg (.Call (.Name "range" p) [a] [] pos) (aGA ta):=by
 intro pins s σ H R I h;refine Call_ (zA I hg hm boot_range (PyProof.Rows.callWith_type1 (cR (ha pos pins s σ H _ I h) ?_) hs rfl));rintro us s1 ⟨vs,H1,I1,r1,q1⟩;obtain⟨j,e,q1,q2,q⟩:=q1;subst e;cases r1 with
 |cons r rr =>
  cases rr;obtain⟨t,rfl⟩:=r;exact call_range_1 (anY I1 (by omega) (by omega) q1 q2 (by simpa using q))
noncomputable def aLI(wi:TI)(g:TG)(tb:TS):TS:=λD σ H=>wi σ H λJ H1=>∃W:Nat->Nat->St->Hp->Prop,(∃m,W 0 m σ H1)/\∀i m σ H,W i m σ H ->
 (J.stop i H/\D.nx σ H)∨(J.go i H/\∃N:St->Hp->Prop,(∀σ' H',N σ' H'->∃m',m'<m/\W (i+1) m' σ' H')/\∀x H',J.yld i H x H'->g x σ H' λσ2 H2=>tb {D with nx:=N,ct:=N,bk:=D.nx} σ2 H2)
noncomputable def a1X(fp:List bw)(h:jj):List (bw×Obj):=fp.filterMap λb=>(h.get? b).map λo=>(b,o)
theorem sW{h:jj}(hb:b∈fp)(e:h.get? b=aj o):(b,o)∈a1X fp h:=a1z.mpr ⟨b,hb,by rw[e];rfl⟩
theorem alU{h:jj}{p:bw×Obj}(hp:p∈a1X fp h):p.1∈fp/\h.get? p.1=aj p.2:=by
 obtain⟨b,hb,e⟩:=a1z.mp hp;cases q:h.get? b with
 |none=>rw[q]at e;cases e
 |some o =>
  rw[q]at e;have e':(b,o)=p:=iz.inj e;subst e';exact⟨hb,q⟩
theorem Inv.pinned(I:Inv X pins σ H s)(hf:∀b∈fp,a1W X pins H b)(ho:∀b∈fp,∃o,s.heap.get? b=aj o/\∀v,o.data≠.cell v):Inv X (pins++a1X fp s.heap) σ H s :=
 I.ajA λp hp=>(ug.mp hp).elim (λz=>I.pin p (qd _ z)) λz=>by
  obtain⟨hb,e⟩:=alU z;obtain⟨f0,f1,f2,_⟩:=hf p.1 hb;obtain⟨o,e',d⟩:=ho p.1 hb;rw[e]at e';cases e';exact⟨e,f0,f1,f2,d⟩
theorem Inv.a09(I:Inv X (pins++pl) σ H s):Inv X pins σ H s:=I.ajA λp hp=>I.pin p (qd _ (a0n _ hp))
set_option tactic.hygienic true in
theorem anZ{g:TG}(hp:a1y (fj X.prog X.w) X.A X.env X.xe)(hi:PI X tg iter wi)(hg:PG X tg g)(hb:PSs X body tb)
  (hs:∀x,a1h iter X.env x=pure x:=by intro _;rfl):PS X (.For tg iter body [] pos) (aLI wi g tb):=by
 intro pins s σ H D I h;refine wpAny_For (cR (hi pins s σ H _ I h) λv s1 h1=>cR h1 λitv s2 h2=>?_) hs;obtain⟨it,fp,tn,J,H2,e,I2,T,st2,f2,W,⟨m0,w0⟩,turn⟩:=h2;subst e;have stat:∀{H':Hp},(∀b∈fp,H' b=bh)->∀b∈fp,a1W X pins H' b:=λhn b hb=>⟨hn b hb,(f2 b hb).2⟩;refine codeAny_forLoop_any (λn s'=>∃i σ' H',Inv X pins σ' H' s'/\tn i s'.heap/\(∀b∈fp,H' b=bh)/\W i n σ' H') ?_ m0 ⟨0,σ,H2,I2,st2,λb hb=>(f2 b hb).1,w0⟩;rintro n s3 ⟨i,σ3,H3,I3,st3,fr3,w3⟩;rcases turn i n σ3 H3 w3 with⟨stop,qn⟩|⟨go,N,hN,step⟩
 .refine a0f hp (cR (T.done X rfl rfl rfl (λh=>h) (λ_ h=>h) i pins s3 σ3 H3 X.xe I3 (stat fr3) st3 stop) ?_);rintro r s4 ⟨hr,I4⟩;subst hr;exact wpAny_execs_nil ⟨σ3,H3,I4,qn⟩
 .refine a0f hp (cR (T.item X rfl rfl rfl (λh=>h) (λ_ h=>h) i pins s3 σ3 H3 X.xe I3 (stat fr3) st3 go) ?_);rintro r s4 ⟨u,hr,h4⟩;subst hr;refine a0f hp (cR h4 λ_ s5 ⟨x,H5,I5,r5,y5,st5,fr5⟩=>?_);have I5':=I5.pinned (stat fr5) (T.obj _ _ st5);refine a0f hp (cR (hg _ s5 σ3 H5 x u _ I5' r5 (step x H5 y5)) λ_ s6 ⟨σ6,H6,I6,q6⟩=>?_);refine a0f hp (cR (hb _ s6 σ6 H6 _ I6 q6) λf s7 q7=>?_)
  have again:∀{σ7:St}{H7:Hp},Inv X (pins++a1X fp s5.heap) σ7 H7 s7->N σ7 H7->∃m,m<n/\∃i σ' H',Inv X pins σ' H' s7/\tn i s7.heap/\(∀b∈fp,H' b=bh)/\W i m σ' H':=λ{σ7 H7} I7 n7=>by
   obtain⟨m',hm,w7⟩:=hN σ7 H7 n7;refine⟨m',hm,i+1,σ7,H7,I7.a09,T.keep _ _ _ st5 λb hb o e=>(I7.pin (b,o) (qd _ (qd _ (sW hb e)))).1,λb hb=>?_,w7⟩;obtain⟨o,e,d⟩:=T.obj _ _ st5 b hb;exact(I7.pin (b,o) (qd _ (qd _ (sW hb e)))).2.1
  cases f with
  |next=>obtain⟨σ7,H7,I7,n7⟩:=q7;exact again I7 n7
  |cont=>obtain⟨σ7,H7,I7,n7⟩:=q7;exact again I7 n7
  |brk=>obtain⟨σ7,H7,I7,q7⟩:=q7;exact⟨σ7,H7,I7.a09,q7⟩
  |ret v=>obtain⟨x7,σ7,H7,I7,r7,q7⟩:=q7;exact⟨x7,σ7,H7,I7.a09,r7,q7⟩
end
end
section
abbrev R2:=V->V->Hp->VK->Prop
noncomputable def rA(X:Cx)(f:aq->aq->Sem aq)(r:R2):Prop :=
 ∀(pins:List (bw×Obj))(s:dh)(σ:St)(H:Hp)(x y:V)(v u:aq)(Q:VK),Inv X pins σ H s->RelV x v->RelV y u->r x y H Q ->
  dg (fj X.prog X.w) X.A (f v u) (EP X pins σ Q) X.xe s
noncomputable def UnR(X:Cx)(f:aq->Sem aq)(r:V->Hp->VK->Prop):Prop :=
 ∀(pins:List (bw×Obj))(s:dh)(σ:St)(H:Hp)(x:V)(v:aq)(Q:VK),Inv X pins σ H s->RelV x v->r x H Q ->
  dg (fj X.prog X.w) X.A (f v) (EP X pins σ Q) X.xe s
noncomputable def uX(X:Cx)(f:aq)(r:List V->Hp->VK->Prop):Prop :=
 ∀(pins:List (bw×Obj))(s:dh)(σ:St)(H:Hp)(xs:List V)(us:List aq)(Q:VK),Inv X pins σ H s->Vals xs us->r xs H Q ->
  dg (fj X.prog X.w) X.A (call f us) (EP X pins σ Q) X.xe s
noncomputable def tOp(r:R2)(ta tb:TE):TE:=λσ H Q=>ta σ H λx H1=>tb σ H1 λy H2=>r x y H2 Q
noncomputable def tUn(r:V->Hp->VK->Prop)(ta:TE):TE:=λσ H Q=>ta σ H λx H1=>r x H1 Q
noncomputable def rI(C:Int->Int->Prop)(g:Int->Int->V):R2:=λx y H Q=>∃i j,x=.int i/\y=.int j/\C i j/\Q (g i j) H
noncomputable def rI0(g:Int->Int->V):R2:=λx y H Q=>∃i j,x=.int i/\y=.int j/\Q (g i j) H
noncomputable def rU(g:Int->V):V->Hp->VK->Prop:=λx H Q=>∃i,x=.int i/\Q (g i) H
section
variable{X:Cx}{a b:jk}{ta tb:TE}{pos:Pos}
theorem aAH(ha:PE X a ta)(hb:PE X b tb){σ:St}{H:Hp}{R:V->V->Hp->Prop}(I:Inv X pins σ H s)
  (h:ta σ H λx H1=>tb σ H1 λy H2=>R x y H2){Q:aq->dh->Prop}{f:aq->aq->Sem aq}
  (hf:∀v u s2 x y H2,Inv X pins σ H2 s2->RelV x v->RelV y u->R x y H2->dg (fj X.prog X.w) X.A (f v u) Q X.xe s2) :
  dg (fj X.prog X.w) X.A (eval a X.env) (λv s₁=>dg (fj X.prog X.w) X.A (eval b X.env) (λu s₂=>dg (fj X.prog X.w) X.A (f v u) Q X.xe s₂) X.xe s₁) X.xe s:=by
 refine cR (ha pins s σ H _ I h) ?_;rintro v s1 ⟨x,H1,I1,r1,q1⟩;refine cR (hb pins s1 σ H1 _ I1 q1) ?_;rintro u s2 ⟨y,H2,I2,r2,q2⟩;exact hf v u s2 x y H2 I2 r1 r2 q2
theorem aGB(ho:rA X (wu op) r)(ha:PE X a ta)(hb:PE X b tb):PE X (.BinOp a op b pos) (tOp r ta tb):=by
 intro pins s σ H Q I h;exact wpAny_BinOp (aAH ha hb I h λv u s2 x y H2 I2 rx ry q=>ho pins s2 σ H2 x y v u Q I2 rx ry q)
theorem aGC(ho:UnR X (unaryOp op) r)(ha:PE X a ta):PE X (.UnaryOp op a pos) (tUn r ta):=by
 intro pins s σ H Q I h;exact UnaryOp_ (cR (ha pins s σ H _ I h) (by rintro v s1 ⟨x,H1,I1,r1,q1⟩;exact ho pins s1 σ H1 x v Q I1 r1 q1))
theorem opI{g:Int->Int->Int}
  (rule:∀(i j:Int)(t u:Tok)(s:dh)(Q:aq->dh->Prop)(E:aq->dh->Prop),C i j->Q (.int (g i j) s.toks) {s with toks:=s.toks+1}->dg (fj X.prog X.w) X.A (f (.int i t) (.int j u)) Q E s) :
  rA X f (rI C λi j=>.int (g i j)):=by
 intro pins s σ H x y v u Q I rx ry h;obtain⟨i,j,rfl,rfl,hc,q⟩:=h;obtain⟨t,rfl⟩:=rx;obtain⟨t',rfl⟩:=ry;exact rule i j t t' s _ _ hc ⟨.int (g i j),H,I.tok _,⟨_,rfl⟩,q⟩
theorem aGD{g:Int->Int->Int}
  (rule:∀(i j:Int)(t u:Tok)(s:dh)(Q:aq->dh->Prop)(E:aq->dh->Prop),Q (.int (g i j) s.toks) {s with toks:=s.toks+1}->dg (fj X.prog X.w) X.A (f (.int i t) (.int j u)) Q E s) :
  rA X f (rI0 λi j=>.int (g i j)):=by
 intro pins s σ H x y v u Q I rx ry h;obtain⟨i,j,rfl,rfl,q⟩:=h;obtain⟨t,rfl⟩:=rx;obtain⟨t',rfl⟩:=ry;exact rule i j t t' s _ _ ⟨.int (g i j),H,I.tok _,⟨_,rfl⟩,q⟩
theorem atU{g:Int->Int->Bool}
  (rule:∀(i j:Int)(t u:Tok)(s:dh)(Q:aq->dh->Prop)(E:aq->dh->Prop),Q (.bool (g i j)) s->dg (fj X.prog X.w) X.A (f (.int i t) (.int j u)) Q E s) :
  rA X f (rI0 λi j=>.bl (g i j)):=by
 intro pins s σ H x y v u Q I rx ry h;obtain⟨i,j,rfl,rfl,q⟩:=h;obtain⟨t,rfl⟩:=rx;obtain⟨t',rfl⟩:=ry;exact rule i j t t' s _ _ ⟨.bl (g i j),H,I,rfl,q⟩
def aAI(i j:Int):Prop:=0<j/\j<1073741824
def aGE(i j:Int):Prop:=0<=j/\j<=1000000/\i.natAbs<2^64
def ao0(i j:Int):Prop:=(-(2^64)<i/\i<2^64)∨(-(2^64)<j/\j<2^64)
theorem ao0.ok{i j:Int}(h:ao0 i j):IntMulOk i j:=by
 rcases h with⟨h1,h2⟩|⟨h1,h2⟩
 .exact .of_left (intBits_le_64 h1 h2)
 .exact .of_right (intBits_le_64 h1 h2)
theorem aAJ:rA X (wu .Add) (rI0 λi j=>.int (i+j)):=aGD λ_ _ _ _ _ _ _ q=>add_int q
theorem aAK:rA X (wu .Sub) (rI0 λi j=>.int (i - j)):=aGD λ_ _ _ _ _ _ _ q=>sub_int q
theorem aAL:rA X (wu .Mult) (rI ao0 λi j=>.int (i*j)):=opI λ_ _ _ _ _ _ _ hc q=>mul_int q hc.ok
theorem atV:rA X (wu .FloorDiv) (rI aAI λi j=>.int (i / j)):=opI λi j _ _ _ _ _ hc q=>by
 have h1:(0:Int)<j:=hc.1;have h2:j<1073741824:=hc.2;exact floordiv_int (by omega) (by rw[Int.fdiv_eq_ediv_of_nonneg i (by omega)];exact q) (.inl (PyProof.noPylong_small (by omega)))
theorem aAM:rA X (wu .Mod) (rI (λ_ j=>0<j) λi j=>.int (i%j)):=opI λi j _ _ _ _ _ hc q=>by
 have h1:(0:Int)<j:=hc;exact mod_int' (by omega) (by rw[Int.fmod_eq_emod_of_nonneg i (by omega)];exact q)
theorem aAN:rA X (wu .Pow) (rI aGE λi j=>.int (i^j.toNat)):=opI λ_ _ _ _ _ _ _ hc q=>pow_int_small hc.1 hc.2.1 hc.2.2 q
theorem unI{g:Int->Int}
  (rule:∀(i:Int)(t:Tok)(s:dh)(Q:aq->dh->Prop)(E:aq->dh->Prop),Q (.int (g i) s.toks) {s with toks:=s.toks+1}->dg (fj X.prog X.w) X.A (f (.int i t)) Q E s) :
  UnR X f (rU λi=>.int (g i)):=by
 intro pins s σ H x v Q I rx h;obtain⟨i,rfl,q⟩:=h;obtain⟨t,rfl⟩:=rx;exact rule i t s _ _ ⟨.int (g i),H,I.tok _,⟨_,rfl⟩,q⟩
theorem aAO:UnR X (unaryOp .USub) (rU λi=>.int (-i)):=unI λ_ _ _ _ _ q=>neg_int q
end
variable{x:V}
section
variable{a b:jk}{ta tb tc:TE}{pos:Pos}
theorem abG{Q:VK}{k k':Bool}(I:Inv X pins σ H s)(q:Q (.bl k) H)(e:k=k'):EP X pins σ Q (.bool k') s:=by
 subst e;exact⟨.bl k,H,I,rfl,q⟩
theorem aGF:rA X (jd .Lt) (rI0 λi j=>.bl (decide (i<j))):=atU λ_ _ _ _ _ _ _ q=>lt_int q
theorem aGG:rA X (jd .LtE) (rI0 λi j=>.bl (decide (i<=j))):=atU λ_ _ _ _ _ _ _ q=>le_int q
theorem aGH:rA X (jd .Gt) (rI0 λi j=>.bl (decide (j<i))):=atU λ_ _ _ _ _ _ _ q=>gt_int q
theorem aGI:rA X (jd .GtE) (rI0 λi j=>.bl (decide (j<=i))):=atU λ_ _ _ _ _ _ _ q=>ge_int q
theorem alV:rA X (jd .In) (λx y H Q=>∃i j,x=.str i/\y=.str j/\Q (.bl (!(Builtin.Str.occurrences j i 0 j.length 1).isEmpty)) H):=by
 intro pins s σ H x y v u Q I rx ry h;obtain⟨i,j,rfl,rfl,q⟩:=h;obtain⟨t,rfl⟩:=rx;obtain⟨t',rfl⟩:=ry;exact in_str (abG I q rfl)
theorem aAP:rA X (jd .Is) (λx y H Q=>y=.non/\Q (.bl (decide (x=.non))) H):=by
 intro pins s σ H x y v u Q I rx ry h;obtain⟨rfl,q⟩:=h;cases ry;refine is_none_gen (abG I q ?_)
 cases x<;>first
  |(cases rx;rfl)
  |(obtain⟨t,rfl⟩:=rx;rfl)
theorem atX:rA X (jd .IsNot) (λx y H Q=>y=.non/\Q (.bl (!decide (x=.non))) H):=by
 intro pins s σ H x y v u Q I rx ry h;obtain⟨rfl,q⟩:=h;cases ry;refine isnot_none_gen (abG I q ?_)
 cases x<;>first
  |(cases rx;rfl)
  |(obtain⟨t,rfl⟩:=rx;rfl)
theorem abH:rA X (jd .NotIn) (λx y H Q=>∃i j,x=.str i/\y=.str j/\Q (.bl (!(!(Builtin.Str.occurrences j i 0 j.length 1).isEmpty))) H):=by
 intro pins s σ H x y v u Q I rx ry h;obtain⟨i,j,rfl,rfl,q⟩:=h;obtain⟨t,rfl⟩:=rx;obtain⟨t',rfl⟩:=ry;exact notIn_str (abG I q rfl)
theorem rA.or(h:rA X f r)(h':rA X f r'):rA X f (λx y H Q=>r x y H Q∨r' x y H Q):=by
 intro pins s σ H x y v u Q I rx ry q;rcases q with q|q
 .exact h pins s σ H x y v u Q I rx ry q
 .exact h' pins s σ H x y v u Q I rx ry q
theorem aLL(b:jk)(h:op≠.In:=by decide)(h2:op≠.NotIn:=by decide):uw op b=ao:=by
 have e1:(op==qx.In)=ao:=by cases op<;>first|rfl|exact absurd rfl h
 have e2:(op==qx.NotIn)=ao:=by cases op<;>first|rfl|exact absurd rfl h2
 cases b<;>simp[uw,e1,e2]
theorem atY(ho:rA X (jd op) r)(ha:PE X a ta)(hb:PE X b tb)(hm:uw op b=ao):PE X (.Compare a [op] [b] pos) (tOp r ta tb):=by
 intro pins s σ H Q I h;exact wpAny_Compare1 (aAH ha hb I h λv u s2 x y H2 I2 rx ry q=>ho pins s2 σ H2 x y v u Q I2 rx ry q) hm
noncomputable def ao1(t:TE):TT:=λσ H Q=>t σ H λx H'=>∃k,x=.bl k/\Q k H'
theorem atZ(ho:rA X (jd op) r)(ha:PE X a ta)(hb:PE X b tb)(hm:uw op b=ao):PT X (.Compare a [op] [b] pos) (ao1 (tOp r ta tb)):=by
 intro pins s σ H Q I h
 refine wpAny_isTrue_Compare1 (cR (ha pins s σ H _ I h) λv s1 ⟨x,H1,I1,r1,q1⟩=>cR (hb pins s1 σ H1 _ I1 q1) λu s2 ⟨y,H2,I2,r2,q2⟩ =>
  cR (ho pins s2 σ H2 x y v u _ I2 r1 r2 q2) λc s3 ⟨z,H3,I3,r3,k,e,q3⟩=>?_) hm
 subst e;cases r3;exact uo ⟨H3,I3,q3⟩
noncomputable def ah0(r r':R2)(ta tb tc:TE):TE:=λσ H Q=>ta σ H λx H1=>tb σ H1 λy H2=>r x y H2 λz H3=>∃k,z=.bl k /\
 (if k=ak then tc σ H3 λw' H4=>r' y w' H4 Q else Q (.bl ao) H3)
theorem ao2(ho:rA X (jd op) r)(ho':rA X (jd op') r')(ha:PE X a ta)(hb:PE X b tb)(hc:PE X c tc)
  (hm:lastMarks [op,op'] [b,c]=ao:=by with_unfolding_all rfl):PE X (.Compare a [op,op'] [b,c] pos) (ah0 r r' ta tb tc):=by
 intro pins s σ H Q I h
 refine Compare_chain (cR (ha pins s σ H _ I h) λv s1 ⟨x,H1,I1,r1,q1⟩=>chain_link (cR (hb pins s1 σ H1 _ I1 q1) λu s2 ⟨y,H2,I2,r2,q2⟩ =>
  cR (ho pins s2 σ H2 x y v u _ I2 r1 r2 q2) λd s3 ⟨z,H3,I3,r3,k,e,q3⟩=>?_)) hm
 subst e;cases r3;refine uo ?_;cases k with
 |false=>exact ite_ff ⟨.bl ao,H3,I3,rfl,q3⟩
 |true=>exact ite_tt (chain_last (cR (hc pins s3 σ H3 _ I3 q3) λw' s4 ⟨z',H4,I4,r4,q4⟩=>ho' pins s4 σ H4 y z' u w' Q I4 r2 r4 q4))
theorem ao3(ho:rA X (jd op) r)(ho':rA X (jd op') r')(ha:PE X a ta)(hb:PE X b tb)(hc:PE X c tc)
  (hm:lastMarks [op,op'] [b,c]=ao:=by with_unfolding_all rfl):PT X (.Compare a [op,op'] [b,c] pos) (ao1 (ah0 r r' ta tb tc)):=by
 intro pins s σ H Q I h
 refine isTrue_chain (cR (ha pins s σ H _ I h) λv s1 ⟨x,H1,I1,r1,q1⟩=>test_link (cR (hb pins s1 σ H1 _ I1 q1) λu s2 ⟨y,H2,I2,r2,q2⟩ =>
  cR (ho pins s2 σ H2 x y v u _ I2 r1 r2 q2) λd s3 ⟨z,H3,I3,r3,k,e,q3⟩=>?_)) hm
 subst e;cases r3;refine uo ?_;cases k with
 |false =>
  obtain⟨k',e',q'⟩:=q3;cases e';exact ite_ff ⟨H3,I3,q'⟩
 |true =>
  refine ite_tt (test_last (cR (hc pins s3 σ H3 _ I3 q3) λw' s4 ⟨z',H4,I4,r4,q4⟩=>cR (ho' pins s4 σ H4 y z' u w' _ I4 r2 r4 q4) ?_));rintro d' s5 ⟨z2,H5,I5,r5,k2,e2,q5⟩;subst e2;cases r5;exact uo ⟨H5,I5,q5⟩
theorem a66:(cu:Nat)<2^63:=by rw[sizeLine_eq];decide
theorem ah1:rA X (wu .Add) (λx y H Q=>∃i j,x=.str i/\y=.str j/\i.length+j.length<=cu/\Q (.str (i++j)) H):=by
 intro pins s σ H x y v u Q I rx ry h;obtain⟨i,j,rfl,rfl,hz,q⟩:=h;obtain⟨t,rfl⟩:=rx;obtain⟨t',rfl⟩:=ry;exact add_str (λt' tk=>⟨.str (i++j),H,I.tok _,⟨_,rfl⟩,q⟩) hz
theorem vals1(r:Vals [x] us):∃u,us=[u]/\RelV x u:=by
 cases r with
 |cons r1 r2=>cases r2;exact⟨_,rfl,r1⟩
theorem vals2(r:Vals [x,y] us):∃u w',us=[u,w']/\RelV x u/\RelV y w':=by
 cases r with
 |cons r1 r2 =>
  cases r2 with
  |cons r3 r4=>cases r4;exact⟨_,_,rfl,r1,r3⟩
theorem alW:uX X (.type "int") (λxs H Q=>(∃i,xs=[.int i]/\Q (.int i) H)∨∃k,xs=[.bl k]/\Q (.int (if k then 1 else 0)) H):=by
 intro pins s σ H xs us Q I r h;rcases h with⟨i,rfl,q⟩|⟨k,rfl,q⟩
 .obtain⟨u,rfl,t,rfl⟩:=vals1 r;exact call_int_int ⟨.int i,H,I,⟨_,rfl⟩,q⟩
 .obtain⟨u,rfl,r1⟩:=vals1 r;cases r1;exact call_int_bool ⟨.int (if k then 1 else 0),H,I.tok _,⟨_,rfl⟩,q⟩
end
end
variable{env:Env}
section
structure ah2(h:jj)(x dx C:bw)(mA:Str->Option aq):Prop where
 obj:h.get? x=aj (zf C dx)
 ns:h.Ns1 dx mA
 ne:dx≠x
set_option tactic.hygienic true in
theorem alX{h:jj}{mA:Str->Option aq}(n:h.Ns1 dx mA):∃od,h.get? dx=aj od/\∀name,a2x name od=aj (mA name):=by
 obtain⟨o,es,ep,ho,hd,hk,_,hm⟩:=n;refine⟨o,ho,λname=>?_⟩;have e:=hm name;unfold nsFind findBy at e;rw[←Array.find?_toList]at e;unfold a2x;rw[hd];dsimp only;split
 ·rename_i y q;rw[q]at e;exact congrArg aj e
 .rename_i q;rw[q]at e
  have a:es.toList.any (·.refKey)=ao:=by
   rw[List.any_eq_false];intro y hy;obtain⟨z,t,hkey⟩:=hk y (a2k.mp hy);simp[yj.refKey,hkey]
  have a':¬ es.toList.any (·.refKey)=ak:=by rw[a];exact oh
  rw[if_neg a'];exact congrArg aj e
theorem ah2.look{h:jj}{x:bw}{mA:Str->Option aq}(I:ah2 h x dx C mA):∃od,PySem.W.InstAt h x (zf C dx) C (aj od)/\∀name,a2x name od=aj (mA name) :=
 let⟨od,ho,hl⟩:=alX I.ns
 ⟨od,⟨I.obj,rfl,rfl,ho⟩,hl⟩
section
variable{prog:jo}{w:jf}{A:jr}{s:dh}{K:iw}{x:bw}{mA:Str->Option aq}{v:aq}
theorem get_map{expr:Bool}(X:K.In s.heap)(I:ah2 s.heap x dx C mA)(hg:a1p K C name=ak)(hh:a2b K C=ak)
  (ha:qg K (.ref C) name=aj bh)(hv:mA name=aj v)(hv':PySem.W.handedIn v=ak)(h:Q v {s with toks:=s.toks+1}) :
  dg (fj prog w) A (getAttr (.ref x) name expr) Q E s:=by
 obtain⟨od,J,hl⟩:=I.look;exact PySem.W.get_value X J (a2s hg).1 (PySem.W.findObj_own hh ha rfl (by rw[hl,hv])) hv' h
theorem ao4(X:K.In s.heap)(I:ah2 s.heap x dx C mA)(hg:a1p K C name=ak)
  (hf:qg K (.ref C) name=aj (aj (.ref f)))(ht:a1T K (.ref f)=ak)(hv:mA name=bh)(h:Q (.ref f,[.ref x]) s) :
  dg (fj prog w) A (getMethod (.ref x) name pl) Q E s:=by
 obtain⟨od,J,hl⟩:=I.look;exact PySem.W.method_fn X J (a2s hg).1 (a2s hg).2 hf (beq_iff_eq.mp ht) (by show(a2x name od).map (·.isSome)=aj ao;rw[hl,hv];rfl) h
theorem au0{ns:List Str}(X:K.In s.heap)(I:ah2 s.heap x dx C mA)
  (hs:qg K (.ref C) "__setattr__"=aj (aj (.builtin "object.__setattr__")))(hp:PySem.W.plainOver K C=ak)(ht:PySem.W.takerIn K C name=aj bh)(hh:a2b K C=ak)
  (hw:PySem.Within mA ns)(hsz:ns.length<=cu)
  (h:∀h',ah2 h' x dx C (λy=>if y=name then aj v else mA y)->jz dx s.heap h'->Q () {s with heap:=h',toks:=s.toks+2}) :
  dg (fj prog w) A (setAttr (.ref x) name v) Q E s:=by
 obtain⟨od,J,hl⟩:=I.look;refine PySem.W.set_plain X J hs (PySem.W.osa_open (s:={s with toks:=s.toks+1}) (r:=none) X J hp ht λb=>?_);obtain⟨cd,hc,hd'⟩:=PySem.W.any_some hh;have hx:s.heap.get? x=aj ⟨.ref C,aj dx,.plain,#[]⟩:=I.obj;refine au (cj (au (au (wpAny_loadPart hx (au (PySem.W.Looks.here (s:={s with toks:=s.toks+1}) (PySem.W.looks_clsIn X hc) ?_))))));rw[hd'];refine cj (a:=some dx) (au (cj (au ?_)));refine wpAny_nsSet1 (s:={s with toks:=s.toks+1}) I.ns λh' hn2 hs2=>?_;obtain⟨oD,esD,epD,hoD,hdD,hcD⟩:=hn2.count (PySem.Within.cons name v hw);refine au (wpAny_lookBehind hoD (by rw[hdD];exact pastItsLine_dict (qj hcD (by rw[lg];omega))) ?_);exact cj (h _ ⟨(hs2.2 _ (Ne.symm I.ne)).trans I.obj,hn2,I.ne⟩ hs2)
theorem ao5(X:K.In s.heap)(hm:PySem.W.makesIn K C=ak)
  (hi:qg K (.ref C) "__init__"=aj (aj (.ref f)))(hf:a1V K (.ref f)=aj (.type "function"))
  (h:a0u (fj prog w) (A.under (.builtin "type.__call__" ⟨.ref C::vs,kw⟩)) (.call (.ref f) ⟨.ref (s.heap.objs.size+1)::vs,kw⟩) (PySem.W.InitBack (s.heap.objs.size+1) R)
   {s with heap:=(s.heap.push xr).push (zf C s.heap.objs.size)}) :
  a0u (fj prog w) A (.call (.ref C) ⟨vs,kw⟩) R s:=by
 obtain⟨hh,g,d,t,os⟩:=s;exact PySem.W.make_core (PySem.W.makes_of X hm) (PySem.W.looks_findIn X hi) (λself=>PySem.W.bind_fn X self hf) (.inl rfl) h
end
noncomputable def sX(f:Str)(v:V):List (Str×V)->List (Str×V)
 |[]=>[(f,v)]
 |(g,x)::r=>if g=f then(g,v)::r else(g,x)::sX f v r
theorem a3T(f g:Str)(v:V):∀fs:List (Str×V),(sX f v fs).lookup g=if g=f then aj v else fs.lookup g
 |[]=>by
  show xq g [(f,v)]=_;by_cases h:g=f
  .have hb:(g==f)=ak:=beq_iff_eq.mpr h;simp only[xq,hb,if_pos h]
  .have hb:(g==f)=ao:=beq_eq_false_iff_ne.mpr h;simp only[xq,hb,if_neg h]
 |(k,x)::r=>by
  have ih:=a3T f g v r;rw[show sX f v ((k,x)::r)=(if k=f then(k,v)::r else(k,x)::sX f v r)from rfl];by_cases hk:k=f
  .rw[if_pos hk];by_cases h:g=k
   .have hb:(g==k)=ak:=beq_iff_eq.mpr h;simp only[xq,hb,if_pos (h.trans hk)]
   .have hb:(g==k)=ao:=beq_eq_false_iff_ne.mpr h;simp only[xq,hb,if_neg (λe:g=f=>h (e.trans hk.symm))]
  .rw[if_neg hk];by_cases h:g=k
   .have hb:(g==k)=ak:=beq_iff_eq.mpr h;simp only[xq,hb,if_neg (λe:g=f=>hk (h.symm.trans e))]
   .have hb:(g==k)=ao:=beq_eq_false_iff_ne.mpr h;simp only[xq,hb];exact ih
theorem a1Y(f:Str)(v:V):∀fs:List (Str×V),f∈(sX f v fs).map (·.1)/\∀g,g∈fs.map (·.1)->g∈(sX f v fs).map (·.1)
 |[]=>⟨by simp[sX],λg h=>by simp at h⟩
 |(k,x)::r=>by
  obtain⟨i1,i2⟩:=a1Y f v r;rw[show sX f v ((k,x)::r)=(if k=f then(k,v)::r else(k,x)::sX f v r)from rfl];by_cases hk:k=f
  .rw[if_pos hk];subst hk;exact⟨by simp,λg h=>by simpa using h⟩
  .rw[if_neg hk];refine⟨?_,λg h=>?_⟩
   .rw[iy];exact jq _ i1
   .rw[iy]at h ⊢;rcases je.mp h with e|e
    .exact je.mpr (.inl e)
    .exact jq _ (i2 g e)
theorem a3U(f:Str)(v:V):∀fs:List (Str×V),(sX f v fs).length<=fs.length+1
 |[]=>by simp[sX]
 |(k,x)::r=>by
  have ih:=a3U f v r;rw[show sX f v ((k,x)::r)=(if k=f then(k,v)::r else(k,x)::sX f v r)from rfl];by_cases hk:k=f
  .rw[if_pos hk,lg,lg];omega
  .rw[if_neg hk,lg,lg];omega
variable{o:Option aq}
theorem sU.some_of(r:sU (aj v) o):∃u,o=aj u/\RelV v u:=by
 cases o with
 |none=>exact(show False from r).elim
 |some u=>exact⟨u,rfl,r⟩
theorem sU.none_of(r:sU bh o):o=bh:=by
 cases o with
 |none=>rfl
 |some u=>exact(show False from r).elim
theorem alY(r:RelV v u):PySem.W.handedIn u=ak:=by
 cases v with
 |non=>cases(show u=aq.none from r);rfl
 |bl b=>cases(show u=aq.bool b from r);rfl
 |int i=>obtain⟨t,e⟩:=(show ∃t,u=aq.int i t from r);cases e;rfl
 |str x=>obtain⟨t,e⟩:=(show ∃t,u=aq.str x t from r);cases e;rfl
 |byt b=>obtain⟨t,e⟩:=(show ∃t,u=aq.bytes b t from r);cases e;rfl
 |flt b=>obtain⟨t,e⟩:=(show ∃t,u=aq.float b t from r);cases e;rfl
 |ref a=>cases(show u=aq.ref a from r);rfl
 |ty n=>cases(show u=aq.type n from r);rfl
section
variable{w:jf}{h:jj}{a:bw}{fs:List (Str×V)}
theorem abI(hok:xQ P w H h)(e:H a=aj (.ins C dx fs)):∃mA,ah2 h a dx C mA/\(∀f,sU (fs.lookup f) (mA f))/\PySem.Within mA (fs.map (·.1))/\fs.length<=1000/\H dx=aj (.own a):=by
 obtain⟨d,z,ne,ob,mA,n,r,q⟩:=(show dW P w H h a (.ins C dx fs)from hok a _ e);exact⟨mA,⟨ob,n,ne⟩,r,q,z,d⟩
end
structure Cls(K:iw)(C:bw):Prop where
 pg:a1p K C Str.empty=ak
 hd:a2b K C=ak
 po:PySem.W.plainOver K C=ak
 sa:qg K (.ref C) "__setattr__"=aj (aj (.builtin "object.__setattr__"))
theorem Cls.get{K:iw}(c:Cls K C)(f:Str):a1p K C f=ak:=c.pg
def lA(K:iw)(C:bw)(f:Str):Prop:=qg K (.ref C) f=aj bh
theorem lA.taker{K:iw}(n:lA K C f):PySem.W.takerIn K C f=aj bh:=by
 unfold PySem.W.takerIn;rw[show qg K (.ref C) f=aj bh from n];rfl
structure Meth(K:iw)(C:bw)(m:Str)(f:bw):Prop where
 at_:qg K (.ref C) m=aj (aj (.ref f))
 fn:a1T K (.ref f)=ak
 kp:uf K (.ref f)=ak
section
variable{X:Cx}{pins:List (bw×Obj)}{s:dh}{a:bw}{fs:List (Str×V)}{v:V}{A:jr}
theorem ah3{b:Bool}(I:Inv X pins σ H s)(e:H a=aj (.ins C dx fs))(c:Cls X.K C)(n:lA X.K C f)(l:fs.lookup f=aj v)
  (h:∀u s',Inv X pins σ H s'->RelV v u->Q u s'):dg (fj X.prog X.w) A (getAttr (.ref a) f b) Q E s:=by
 obtain⟨mA,O,r,_,_,_⟩:=abI I.hok e;obtain⟨u,hu,ru⟩:=sU.some_of (v:=v) (o:=mA f) (by rw[←l];exact r f);exact get_map I.kIn O (c.get f) c.hd n hu (alY ru) (h u _ (I.tok _) ru)
theorem a67{m:Str}{g:bw}(I:Inv X pins σ H s)(e:H a=aj (.ins C dx fs))(c:Cls X.K C)(k:Meth X.K C m g)(l:fs.lookup m=bh)
  (h:Q (.ref g,[.ref a]) s):dg (fj X.prog X.w) A (getMethod (.ref a) m pl) Q E s:=by
 obtain⟨mA,O,r,_,_,_⟩:=abI I.hok e;have hn:mA m=bh:=sU.none_of (by rw[←l];exact r m);exact ao4 I.kIn O (c.get m) k.at_ k.fn hn h
theorem ah4(I:Inv X pins σ H s)(e:H a=aj (.ins C dx fs))(c:Cls X.K C)(n:lA X.K C f)(hl:fs.length<1000)(ry:RelV y u)
  (h:∀s',Inv X pins σ (upd H a (.ins C dx (sX f y fs))) s'->Q () s'):dg (fj X.prog X.w) A (setAttr (.ref a) f u) Q E s:=by
 obtain⟨mA,O,r,wi,_,ho⟩:=abI I.hok e;have hz:(fs.map (·.1)).length<=cu:=by rw[dj,sizeLine_eq];omega
 refine au0 I.kIn O c.sa c.po n.taker c.hd wi hz λh' O' sb=>h _ ?_;have hd:∃o,h'.get? dx=aj o:=let⟨o,_,_,e',_⟩:=O'.ns;⟨o,e'⟩
 refine I.write (x:=a) (e:=dx) (by rw[e];exact True.intro) (.inr ho) (λb q hb z=>(sb.2 b hb).trans z) hd ?_;refine⟨by rw[aU O.ne];exact ho,?_,O.ne,O'.obj,_,O'.ns,λg=>?_,λg hg=>?_⟩
 .have:=a3U f y fs;omega
 .show sU ((sX f y fs).lookup g) (if g=f then aj u else mA g);rw[a3T];by_cases q:g=f
  .rw[if_pos q,if_pos q];exact ry
  .rw[if_neg q,if_neg q];exact r g
 .by_cases q:g=f
  .rw[q];exact(a1Y f y fs).1
  .refine(a1Y f y fs).2 g (wi g λz=>hg ?_);show(if g=f then aj u else mA g)=bh;rw[if_neg q];exact z
theorem Inv.made(I:Inv X pins σ H s):Inv X pins σ (upd (upd H s.heap.objs.size (.own (s.heap.objs.size+1))) (s.heap.objs.size+1) (.ins C s.heap.objs.size []))
  {s with heap:=(s.heap.push xr).push (zf C s.heap.objs.size)}:=by
 have e1:(s.heap.push xr).get? s.heap.objs.size=aj xr:=ig s.heap rfl
 have e2:((s.heap.push xr).push (zf C s.heap.objs.size)).get? (s.heap.objs.size+1)=aj (zf C s.heap.objs.size):=by
  have:=ig (s.heap.push xr) (o:=zf C s.heap.objs.size) rfl
  rwa [a2w]at this
 have e3:(s.heap.push xr).Ns s.heap.objs.size (λ_=>bh):=⟨xr,#[],_,e1,rfl,(λe he=>absurd he (by simp)),λ_=>rfl⟩;have I1:=I.laid (a:=s.heap.objs.size) (o:=.own (s.heap.objs.size+1)) (h':=s.heap.push xr) (t':=s.toks) (λb u q=>cg _ q) (dz _) ⟨_,e1⟩;refine I1.laid (a:=s.heap.objs.size+1) (o:=.ins C s.heap.objs.size []) (t':=s.toks) (λb u q=>cg _ q) (a1U (a2w _ _)) ?_;have ne:s.heap.objs.size≠s.heap.objs.size+1:=jc (Nat.lt_succ_self _);refine⟨by rw[aU ne,aK],vh _,ne,e2,λ_=>bh,(Heap.Ns1.of_empty e3).at λo q=>cg _ q,λ_=>True.intro,λy hy=>absurd rfl hy⟩
theorem au1{prog:jo}{w:jf}{f:Str}(hb:uh e f env (eval e env)=eval e env)
  (h:dg (fj prog w) A (eval e env) (λo s₁=>dg (fj prog w) A (getAttr o f ak) Q E s₁) E s):dg (fj prog w) A (eval (.Attribute e f pos) env) Q E s :=
 Attribute_any_ h (by rw[arm_eval_Attribute,hb])
end
noncomputable def aLM(K:iw)(ta:TE)(f:Str):TE:=λσ H Q=>ta σ H λx H1=>∃a C dx fs v,x=.ref a/\H1 a=aj (.ins C dx fs)/\Cls K C/\lA K C f/\fs.lookup f=aj v/\Q v H1
noncomputable def aLN(K:iw)(ta tv:TE)(f:Str):TS:=λD σ H=>tv σ H λy H1=>ta σ H1 λx H2=>∃a C dx fs,x=.ref a/\H2 a=aj (.ins C dx fs)/\Cls K C/\lA K C f/\fs.length<1000 /\
 D.nx σ (upd H2 a (.ins C dx (sX f y fs)))
section
variable{X:Cx}{o:jk}{pos:Pos}
theorem aAQ(he:PE X e ta)(hb:uh e f X.env (eval e X.env)=eval e X.env):PE X (.Attribute e f pos) (aLM X.K ta f):=by
 intro pins s σ H Q I h;refine au1 hb (cR (he pins s σ H _ I h) ?_);rintro u s1 ⟨x,H1,I1,rx,a,C,dx,fs,v,ex,ea,c,n,l,q⟩;subst ex;obtain rfl:u=aq.ref a:=rx;exact ah3 I1 ea c n l λu' s2 I2 ru=>⟨v,H1,I2,ru,q⟩
theorem aAR(ha:PE X o ta)(hv:PE X value tv)(hs:a0z value (aj (.Attribute o f pos')) pos.line X.env=pure ao):PS X (.Assign [.Attribute o f pos'] value pos) (aLN X.K ta tv f):=by
 intro pins s σ H D I h;refine plainObj_wpAny_Assign_Attribute (cR (hv pins s σ H _ I h) λu s1 ⟨y,H1,I1,ry,q⟩=>cR (ha pins s1 σ H1 _ I1 q) ?_) hs;rintro ov s2 ⟨x,H2,I2,rx,a,C,dx,fs,ex,ea,c,n,l,q2⟩;subst ex;obtain rfl:ov=aq.ref a:=rx;exact ah4 I2 ea c n l ry λs3 I3=>⟨σ,_,I3,q2⟩
end
section
end
end
variable{mg:Str->Option aq}{base:jj}{outer:List Env}
section
structure gG(qt:Bool)(k:Nat)(A:jr):Prop where
 hd:qt=ao->A.handled=bh
 dp:A.depth+3*k+5<recursionLimit
 un:A.units+16*k+200<jl
theorem gG.mono{j k:Nat}(r:gG qt k A)(h:j<=k):gG qt j A:=⟨r.hd,by have:=r.dp;omega,by have:=r.un;omega⟩
theorem gG.deeper{k:Nat}(r:gG qt (k+1) A)(env:Env):gG qt k (A.deeper env) :=
 ⟨r.hd,by have:=r.dp;show A.depth+1+3*k+5<_;omega,by have:=r.un;show A.units+3+16*k+200<_;omega⟩
theorem gG.in1{k:Nat}(r:gG qt (k+1) A):gG qt k A.in1 :=
 ⟨r.hd,by have:=r.dp;show A.depth+3*k+5<_;omega,by have:=r.un;show A.units+1+16*k+200<_;omega⟩
theorem ah5:(A.under (.builtin "type.__call__" ⟨.ref C::us,kw⟩)).depth=A.depth+1:=by
 first|rfl|simp[jr.under,Code.weight,Code.isCreation,Code.isGuard,Code.isCaller,Code.frames,Code.isFrame,guardIds]
theorem ah6:(A.under (.builtin "type.__call__" ⟨.ref C::us,kw⟩)).units=A.units+1:=by
 first|rfl|simp[jr.under,Code.cUnits,Code.frames,Code.isFrame]
theorem gG.make{k:Nat}(r:gG qt (k+1) A)(C:bw)(us:List aq)(kw:List (Str×aq)):gG qt k (A.under (.builtin "type.__call__" ⟨.ref C::us,kw⟩)) :=
 ⟨r.hd,by have:=r.dp;rw[ah5];omega,by have:=r.un;rw[ah6];omega⟩
theorem gG.depth{k:Nat}(r:gG qt k A):A.depth<recursionLimit:=by have:=r.dp;omega
theorem gG.units{k:Nat}(r:gG qt k A):A.units+64<jl:=by have:=r.un;omega
noncomputable def aLO:TA:=λ_ H Q=>Q [] H
noncomputable def aGJ(ta:TE)(tr:TA):TA:=λσ H Q=>ta σ H λx H1=>tr σ H1 λxs H2=>Q (x::xs) H2
section
variable{X:Cx}{t:TA}{pos:Pos}
theorem aAS:PA X [] aLO:=λ_ _ _ _ H Q I h=>Calls.spliced_nil ⟨[],H,I,.nil,h⟩
theorem au2(ha:PE X e te)(hr:PA X es t)(hs:jg (e::es) X.env=(ao,eval e X.env)::jg es X.env:=by rfl):PA X (e::es) (aGJ te t):=by
 intro pos pins s σ H Q I h;rw[hs];show dg _ _ (spliced ((ao,eval e X.env)::rm pos (jg es X.env))) _ _ s;refine Calls.spliced_cons (cR (ha pins s σ H _ I h) ?_);rintro u s1 ⟨x,H1,I1,r1,q1⟩;exact cR (hr pos pins s1 σ H1 _ I1 q1) (by rintro us s2 ⟨xs,H2,I2,r2,q2⟩;exact⟨x::xs,H2,I2,.cons r1 r2,q2⟩)
noncomputable def aLP(t:TA):TE:=λσ H Q=>t σ H λxs H1=>xs.length<=cu/\∀p,H1 p=bh->Q (.ref p) (upd H1 p (.tup xs))
noncomputable def aLQ(t:TA):TE:=λσ H Q=>t σ H λxs H1=>xs.length<=cu/\∀p,H1 p=bh->Q (.ref p) (upd H1 p (.lst xs))
theorem aAT{x1}(h:PA X es t):PE X (.Tuple es x1 pos) (aLP t):=by
 intro pins s σ H Q I hq;refine wpAny_Tuple_spliced (cR (h pos pins s σ H _ I hq) λus s1 ⟨xs,H1,I1,r,z,q⟩=>⟨by rw[←r.length];exact z,?_⟩);have hf:H1 s1.heap.objs.size=bh:=I1.hok.fresh (dz _);refine⟨.ref s1.heap.objs.size,upd H1 s1.heap.objs.size (.tup xs),I1.laid (t':=s1.toks) (λb u e=>cg _ e) (dz _) ?_,rfl,q _ hf⟩;exact⟨z,us,r,⟨_,ig _ rfl,rfl,_,rfl⟩⟩
theorem aAU(h:PA X es t):PE X (.List es pos) (aLQ t):=by
 intro pins s σ H Q I hq;refine wpAny_List_spliced (cR (h pos pins s σ H _ I hq) λus s1 ⟨xs,H1,I1,r,z,q⟩=>⟨by rw[←r.length];exact z,?_⟩);have hf:H1 s1.heap.objs.size=bh:=I1.hok.fresh (dz _);refine⟨.ref s1.heap.objs.size,upd H1 s1.heap.objs.size (.lst xs),I1.laid (t':=s1.toks) (λb u e=>cg _ e) (dz _) ?_,rfl,q _ hf⟩;exact⟨z,us,0,r,ig _ rfl⟩
end
abbrev Sp:=List V->Hp->VK->XK->Prop
abbrev CXT:=List Env->Hp->dh->XK->aq->dh->Prop
structure a8W(P:jo)(w:jf)(K:iw)(mg:Str->Option aq)(base:jj)(A:jr)(outer:List Env)(s:dh)(H:Hp):Prop where
 frames:A.frames=aj outer
 mod:Mod K mg base
 bs:∀b o,base.get? b=aj o->s.heap.get? b=aj o/\H b=bh
 bsz:base.objs.size<=s.heap.objs.size
 uT:s.heap.FunFrames base outer
 frf:∀b∈frs outer,H b=bh
 hok:xQ P w H s.heap
 bare:AllBare s.gens
 hnd:Hnd A H
noncomputable def CE(outer:List Env)(P:jo)(w:jf)(H:Hp)(s:dh)(Q:VK)(u:aq)(s':dh):Prop :=
 ∃v H',s'.os=s.os/\AllBare s'.gens/\Un (frs outer) [] H H' s.heap s'.heap/\xQ P w H' s'.heap/\RelV v u/\Q v H'
noncomputable def CR(CX:CXT)(outer:List Env)(P:jo)(w:jf)(H:Hp)(s:dh)(Q:VK)(E:XK)(r:Result)(s':dh):Prop :=
 match r with
 |.ok (.ret u)=>CE outer P w H s Q u s'
 |.ok _=>False
 |.error e=>CX outer H s E e s'
structure cC(qt:Bool)(P:jo)(w:jf)(K:iw)(mg:Str->Option aq)(base:jj)(CX:CXT)(k:Nat)(f:bw)(fd:kh)(ps:List Str)(sp:Sp):Prop where
 len:∀vs H Q E,sp vs H Q E->vs.length=ps.length
 run:∀(A:jr)(outer:List Env)(s:dh)(H:Hp)(args:Args)(us:List aq)(vs:List V)(Q:VK)(E:XK),gG qt k A->a8W P w K mg base A outer s H->BindsTo s fd args (ps.zip us)->Vals vs us->sp vs H Q E ->
  a0u (fj P w) A (.call (.ref f) args) (CR CX outer P w H s Q E) s
theorem cC.mono{w:jf}{K:iw}{mg:Str->Option aq}{base:jj}{j k:Nat}(F:cC qt P w K mg base CX j f fd ps sp)(h:j<=k) :
  cC qt P w K mg base CX k f fd ps sp:=⟨F.len,λA outer s H args us vs Q E hr=>F.run A outer s H args us vs Q E (hr.mono h)⟩
theorem cC.imp{w:jf}{K:iw}{k:Nat}(F:cC qt P w K mg base CX k f fd ps sp)
  (h:∀vs H Q E,sp' vs H Q E->sp vs H Q E):cC qt P w K mg base CX k f fd ps sp' :=
 ⟨λvs H Q E q=>F.len vs H Q E (h _ _ _ _ q),λA outer s H args us vs Q E hr he hb hv hs=>F.run A outer s H args us vs Q E hr he hb hv (h _ _ _ _ hs)⟩
theorem a8W.make{w:jf}{K:iw}(e:a8W P w K mg base A outer s H)(C:bw)(us:List aq)(kw:List (Str×aq)) :
  a8W P w K mg base (A.under (.builtin "type.__call__" ⟨.ref C::us,kw⟩)) outer s H:=⟨by first|exact e.frames|(simpa[jr.under,Code.envs,Code.isFrame,pushEnvs]using e.frames),e.mod,e.bs,e.bsz,e.uT,e.frf,e.hok,e.bare,e.hnd⟩
theorem a8W.in1{w:jf}{K:iw}(e:a8W P w K mg base A outer s H) :
  a8W P w K mg base A.in1 outer s H:=⟨e.frames,e.mod,e.bs,e.bsz,e.uT,e.frf,e.hok,e.bare,e.hnd⟩
section
variable{X:Cx}{pins:List (bw×Obj)}{s:dh}
theorem Inv.env0(I:Inv X pins σ H s):a8W X.prog X.w X.K X.mg X.base X.A X.stack s H :=
 ⟨I.ok.frames,I.ok.mod,I.bs,qj I.ok.bsz I.sz,I.stack,I.abD,I.hok,I.bare,I.hnd⟩
end
noncomputable def Binds(K:iw)(fd:kh)(ps:List Str)(ds:List aq):Prop :=
 ∀(s:dh)(us:List aq),K.In s.heap->(us++ds).length=ps.length->BindsTo s fd ⟨us,[]⟩ (ps.zip (us++ds))
variable{ps:List Str}
theorem Binds.all{K:iw}(h:∀us:List aq,us.length=ps.length->tu fd ⟨us,[]⟩=pure (ps.zip us)):Binds K fd ps []:=λs us _ hl=>by
 rw[a0g]at hl ⊢;exact .of_eq (h us hl)
section
variable{f C:bw}
structure Mk(K:iw)(C f:bw):Prop where
 makes:PySem.W.makesIn K C=ak
 init:qg K (.ref C) "__init__"=aj (aj (.ref f))
 fn:a1T K (.ref f)=ak
 kp:uf K (.ref C)=ak
end
section
end
structure bA(N P:List Str)(sc:yp):Prop where
 kind:sc.kind=.function
 co:sc.isCoroutine=ao
 gen:sc.isGenerator=ao
 nd:N.Nodup
 pre:N.take P.length=P
 par:∀x∈P,sc.names.lookup x=aj .local∨sc.names.lookup x=aj .cell
 aAV:∀y∈sc.names,y.2≠.free
theorem a9U{kindOf:Str->Option vm}{x:Str}:∀{binds:List (Str×aq)}{m:Str->Option aq},(∀v,(x,v)∉binds)->bindL kindOf binds m x=m x
 |[],_,_=>rfl
 |(n,v)::r,m,h=>by
  unfold bindL;rw[a9U λw hw=>h w (jq _ hw)];split
  ·have:x≠n:=by rintro rfl;exact h v su
   simp[this]
  .rfl
theorem a9V{kindOf:Str->Option vm}{x:Str}:∀{binds:List (Str×aq)}{m:Str->Option aq},(∀v,(x,v)∉binds)->bindC kindOf binds m x=m x
 |[],_,_=>rfl
 |(n,v)::r,m,h=>by
  unfold bindC;rw[a9V λw hw=>h w (jq _ hw)];split
  ·rfl
  .have:x≠n:=by rintro rfl;exact h v su
   simp[this]
theorem a9W{kindOf:Str->Option vm}{x:Str}{v:aq}:∀{P:List Str}{vs:List aq}{i:Nat}{m:Str->Option aq},P.Nodup->P[i]?=aj x->vs[i]?=aj v->kindOf x=aj .local ->
  bindL kindOf (P.zip vs) m x=aj v
 |[],_,_,_,_,h,_,_=>by simp at h
 |_::_,[],_,_,_,_,h,_=>by simp at h
 |p::P,w::vs,0,m,nd,h1,h2,hk=>by
  simp at h1 h2;subst h1;subst h2;show bindL kindOf ((p,w)::P.zip vs) m p=_;unfold bindL;rw[a9U λv hv=>(qy.mp nd).1 (List.of_mem_zip hv).1,if_pos hk];simp
 |p::P,w::vs,i+1,m,nd,h1,h2,hk=>by
  show bindL kindOf ((p,w)::P.zip vs) m x=_;unfold bindL;exact a9W (i:=i) (qy.mp nd).2 (by simpa using h1) (by simpa using h2) hk
theorem a9X{kindOf:Str->Option vm}{x:Str}{v:aq}:∀{P:List Str}{vs:List aq}{i:Nat}{m:Str->Option aq},P.Nodup->P[i]?=aj x->vs[i]?=aj v->kindOf x≠aj .local ->
  bindC kindOf (P.zip vs) m x=aj v
 |[],_,_,_,_,h,_,_=>by simp at h
 |_::_,[],_,_,_,_,h,_=>by simp at h
 |p::P,w::vs,0,m,nd,h1,h2,hk=>by
  simp at h1 h2;subst h1;subst h2;show bindC kindOf ((p,w)::P.zip vs) m p=_;unfold bindC;rw[a9V λv hv=>(qy.mp nd).1 (List.of_mem_zip hv).1,if_neg hk];simp
 |p::P,w::vs,i+1,m,nd,h1,h2,hk=>by
  show bindC kindOf ((p,w)::P.zip vs) m x=_;unfold bindC;exact a9X (i:=i) (qy.mp nd).2 (by simpa using h1) (by simpa using h2) hk
noncomputable def start(N:List Str)(vs:List V):St:=vs.map aj++a0p (N.length - vs.length) bh
noncomputable def pG(qt:Bool)(CX:CXT)(P:jo)(w:jf)(K:iw)(mg:Str->Option aq)(base:jj)(N:List Str)(qual:Str)(scope:yp)(f:bw)(cd:aq)(A:jr)(outer:List Env)(s:dh)(H:Hp)(E:XK):Cx where
 prog:=P
 w:=w
 K:=K
 mg:=mg
 base:=base
 A:=A.deeper (envOfC qual scope s.heap.objs.size f cd)
 N:=N
 s₀:=s
 H₀:=H
 env:=envOfC qual scope s.heap.objs.size f cd
 outer:=outer
 stack:=envOfC qual scope s.heap.objs.size f cd::outer
 ex:=[]
 calm:=!qt
 fn:=λ_=>ak
 pn:=[]
 tp:=[]
 xe:=λe s'=>dg (fj P w) (A.deeper (envOfC qual scope s.heap.objs.size f cd)) (leaving (envOfC qual scope s.heap.objs.size f cd) e) (λ_ s''=>CX outer H s E e s'') (λe' s''=>CX outer H s E e' s'') s'
theorem adN{sc:yp}(h:sc.names.lookup x=aj .cell):∃c,(cellsFrom n sc.names []).lookup x=aj c:=by
 have q:=PySem.W.cellsFrom_some sc.names n [] (.inl h);exact a0r.mp q
theorem alZ{w:jf}{K:iw}{scope:yp}{vs:List V}
  (S:bA N ps scope)(hd:qt=ao->A.handled=bh)(e0:a8W P w K mg base A outer s H)(hl:vs.length=ps.length)(r:Vals vs us)
  (x:InCallC s s.heap.objs.size (bindL (envOfC qual scope s.heap.objs.size f cd).kindOf (ps.zip us) λ_=>bh) (cellsFrom (s.heap.objs.size+1) scope.names []) (bindC (envOfC qual scope s.heap.objs.size f cd).kindOf (ps.zip us) λ_=>bh) s1) :
  Inv (pG qt CX P w K mg base N qual scope f cd A outer s H E) [] (start N vs) H s1:=by
 have hpl:ps.length<=N.length:=by have:=congrArg a1c S.pre;rw[a1q]at this;omega
 obtain⟨h1,tk,rfl,hk⟩:=x.done;have noA:∀b:bw,b∉(pG qt CX P w K mg base N qual scope f cd A outer s H E).ex:=λb z=>absurd (show b∈([]:List bw)from z) (by simp)
 refine⟨⟨e0.mod,S.kind,rfl,rfl,dz _,λy z c h1 h2=>?_,λy hy=>?_,λy c _ h=>?_,λz=>hd (by cases qt with|false=>rfl|true=>cases z),jr.frames_deeper e0.frames,.inr ⟨rfl,rfl⟩,λb z=>absurd z (noA b),e0.bs,e0.bsz,λb _ _=>noA b,λb z=>absurd z (noA b),e0.uT,e0.frf⟩,
  rfl,e0.bare,Un.kept hk,⟨_,x.toInCall.ns,λi y v h1 h2 h3=>?_⟩,λy c h=>⟨_,x.cell y c h⟩,e0.hok.fresh (dz _),λy c h=>?_,λp hp=>absurd (show p∈([]:List (bw×Obj))from hp) (by simp),e0.hok.kept hk,?_,e0.hnd,λp hp=>absurd (show p∈([]:List (bw×List V))from hp) (by simp)⟩
 .exact name_of_addr x.apart (PySem.mem_of_lookup h1) (PySem.mem_of_lookup h2)
 .have hy:scope.names.lookup y=aj .cell∨scope.names.lookup y=aj .free:=hy;rcases hy with hy|hy
  .exact adN hy
  .exact absurd rfl (S.aAV _ (PySem.mem_of_lookup hy))
 .exact ux (x.above y c (PySem.mem_of_lookup h))
 .have hi:i<vs.length:=by
   unfold start at h2;by_cases hi:i<vs.length
   .exact hi
   .rw[yq (by simpa using hi)]at h2;rw[List.getElem?_replicate]at h2;split at h2<;>cases h2
  have ha:vs[i]?=aj v:=by
   unfold start at h2;rw[a0o (by simpa using hi),vp]at h2;cases e:vs[i]? with
   |none=>rw[e]at h2;cases h2
   |some a=>rw[e]at h2;cases h2;rfl
  obtain⟨u,hu,rv⟩:=r.get ha
  have hp:ps[i]?=aj y:=by
   rw[←S.pre,List.getElem?_take_of_lt (by omega)];exact h1
  have ndP:ps.Nodup:=by rw[←S.pre];exact S.nd.sublist (List.take_sublist _ _)
  refine⟨u,rv,?_⟩;rcases S.par y (jx hp)with k|k
  .exact .inl ⟨k,a9W ndP hp hu k⟩
  .obtain⟨c,e⟩:=adN (n:=s.heap.objs.size+1) k;refine .inr ⟨.inl k,c,e,?_⟩;have q:=x.cell y c e;rw[a9X ndP hp hu (by show scope.names.lookup y≠_;rw[k];decide)]at q;exact q
 .exact e0.hok.fresh (ux (x.above y c (PySem.mem_of_lookup h)))
 .unfold start;show _=N.length;rw[uc,dj,List.length_replicate];omega
set_option tactic.hygienic true in
theorem ayH{w:jf}{K:iw}{k:Nat}{kV ct:aq}{an:Option bw}(lk:K.lookup f=aj ⟨oc,od,.func (ql name qual params body scope dV kV doc pm an cdv ct),osl⟩)(hcd:a1m K cdv qual=ak)(S:bA N ps scope)
  (len:∀vs H Q E,sp vs H Q E->vs.length=ps.length)
  (hbody:∀(A:jr)(outer:List Env)(s:dh)(H:Hp)(vs:List V)(Q:VK)(E:XK),gG qt k (A.deeper (envOfC qual scope s.heap.objs.size f cdv))->sp vs H Q E ->
   ∃t,PSs (pG qt CX P w K mg base N qual scope f cdv A outer s H E) body t/\t {nx:=λ_ H'=>Q .non H',rt:=Q} (start N vs) H) :
  cC qt P w K mg base CX (k+1) f (ql name qual params body scope dV kV doc pm an cdv ct) ps sp:=by
 refine⟨len,λA outer s H args us vs Q E hr e0 hb r hsp=>?_⟩;have hl:=len _ _ _ _ hsp;have KX:K.In s.heap:=e0.mod.kin.keeps λb o e=>(e0.bs b o e).1;have lim:s.heap.NoLimit:=e0.mod.nolimit.keeps λb o e=>(e0.bs b o e).1
 have hkind:∀y∈ps.zip us,scope.names.lookup y.1=aj .local∨(scope.names.lookup y.1=aj .cell/\((cellsFrom (s.heap.objs.size+1) scope.names []).lookup y.1).isSome=ak):=λ⟨n,v⟩ hy=>by
  rcases S.par n (List.of_mem_zip hy).1 with q|q
  .exact .inl q
  .exact .inr ⟨q,PySem.W.cellsFrom_some _ _ _ (.inl q)⟩
 refine codeAny_call_function hr.depth (KX _ _ lk) rfl S.co S.gen rfl (PySem.W.codeRec_of KX hcd) (hb _ _ _ _ ?_);refine wpAny_newFunctionEnv_cells S.kind hkind λenv he s1 x=>?_;subst he;refine⟨lim.keeps x.toInCall.keep,codeAny_func ?_⟩;obtain⟨t,ht,hq⟩:=hbody A outer s H vs Q E (hr.deeper _) hsp;have I:Inv (pG qt CX P w K mg base N qual scope f cdv A outer s H E) [] (start N vs) H s1:=alZ S hr.hd e0 hl r x;refine qm (ht [] s1 (start N vs) H _ I hq) (λfl s' hs=>?_) λe s' hs=>hs
 have fin:∀{σ':St}{H':Hp}{v:V}{u:aq},Inv (pG qt CX P w K mg base N qual scope f cdv A outer s H E) [] σ' H' s'->RelV v u->Q v H'->CE outer P w H s Q u s' :=
  λ{σ' H' v u} J rv q=>⟨v,H',J.os,J.bare,J.base,J.hok,rv,q⟩
 cases fl with
 |ret u =>
  obtain⟨v,σ',H',J,rv,q⟩:=hs;exact fin J rv q
 |next =>
  obtain⟨σ',H',J,q⟩:=hs;exact fin (v:=V.non) (u:=Value.none) J rfl q
 |brk =>
  obtain⟨_,_,_,q⟩:=hs;exact False.elim q
 |cont =>
  obtain⟨_,_,_,q⟩:=hs;exact False.elim q
end
section
section
end
end
variable{h':jj}
section
variable{o:Option V}
section
variable{κ:Type}[DecidableEq κ]
noncomputable def uU(kvs:List (κ×V))(k:κ):Option V:=(kvs.find? λkv=>decide (kv.1=k)).map (·.2)
noncomputable def putK(kvs:List (κ×V))(k:κ)(v:V):List (κ×V) :=
 if(kvs.any λkv=>decide (kv.1=k))=ak then kvs.map (λkv=>if kv.1=k then(kv.1,v)else kv)else kvs++[(k,v)]
noncomputable def uD(kvs:List (κ×V))(k:κ):List (κ×V):=kvs.filter λkv=>decide (kv.1≠k)
theorem uY{p:κ×V}{k:κ}(e:p.1=k):uU (p::r) k=aj p.2:=by simp[uU,a0h,e]
theorem uZ{p:κ×V}{k:κ}(e:¬ p.1=k):uU (p::r) k=uU r k:=by simp[uU,a0h,e]
theorem a68(k:κ):∀kvs:List (κ×V),(kvs.any λkv=>decide (kv.1=k))=(uU kvs k).isSome
 |[]=>rfl
 |p::r=>by
  rw[a0v];by_cases e:p.1=k
  .simp only[uY e,decide_eq_true e,Bool.true_or,Option.isSome_some]
  .rw[uZ e,decide_eq_false e,Bool.false_or];exact a68 k r
theorem v7(kvs:List (κ×V))(k:κ)(v:V):(putK kvs k v).length<=kvs.length+1:=by
 unfold putK;split
 ·rw[dj];omega
 .rw[uc,lg,a2l];omega
theorem sU.nW{u:Option aq}(r:sU o u):o.isSome=u.isSome:=by
 cases o with
 |none=>cases u with
  |none=>rfl
  |some _=>exact(show False from r).elim
 |some _=>cases u with
  |none=>exact(show False from r).elim
  |some _=>rfl
theorem sU.getD{u:Option aq}(r:sU o u)(rd:RelV d d'):RelV (o.getD d) (u.getD d'):=by
 cases o with
 |none=>cases u with
  |none=>exact rd
  |some _=>exact(show False from r).elim
 |some _=>cases u with
  |none=>exact(show False from r).elim
  |some _=>exact r
theorem KV.val(r:KV kvs vs)(k:κ):sU (uU kvs k) (valueAt vs k):=by
 unfold KV at r
 induction r with
 |nil=>exact True.intro
 |@cons p q ps qs h t ih =>
  obtain⟨h1,h2⟩:=h;by_cases e:p.1=k
  .have e':q.1=k:=h1.symm.trans e;have b:valueAt (q::qs) k=aj q.2:=by simp[valueAt,a0h,e']
   rw[uY e,b];exact h2
  .have e':¬ q.1=k:=λz=>e (h1.trans z);have b:valueAt (q::qs) k=valueAt qs k:=by simp[valueAt,a0h,e']
   rw[uZ e,b];exact ih
theorem KV.any{kvs:List (κ×V)}{vs:List (κ×aq)}(r:KV kvs vs)(k:κ):(kvs.any λkv=>decide (kv.1=k))=vs.any λkv=>decide (kv.1=k):=by
 unfold KV at r
 induction r with
 |nil=>rfl
 |cons h t ih=>rw[a0v,a0v,ih,h.1]
theorem KV.repl{kvs:List (κ×V)}{vs:List (κ×aq)}(r:KV kvs vs)(k:κ)(ry:RelV y u) :
  KV (kvs.map λkv=>if kv.1=k then(kv.1,y)else kv) (vs.map λkv=>if kv.1=k then(kv.1,u)else kv):=by
 unfold KV at r ⊢
 induction r with
 |nil=>exact .nil
 |@cons p q ps qs h t ih =>
  rw[iy,iy];refine .cons ?_ ih;obtain⟨h1,h2⟩:=h;by_cases e:p.1=k
  .rw[if_pos e,if_pos (h1.symm.trans e)];exact⟨h1,ry⟩
  .rw[if_neg e,if_neg (λz=>e (h1.trans z))];exact⟨h1,h2⟩
theorem KV.put(r:KV kvs vs)(k:κ)(ry:RelV y u):KV (putK kvs k y) (stored vs k u):=by
 unfold putK stored;rw[r.any k];by_cases e:(vs.any λkv=>decide (kv.1=k))=ak
 .rw[if_pos e,if_pos e];exact r.repl k ry
 .rw[if_neg e,if_neg e];exact Paired.snoc r ⟨rfl,ry⟩
theorem KV.drop(r:KV kvs vs)(k:κ):KV (uD kvs k) (without vs k):=by
 unfold KV at r ⊢;unfold uD without
 induction r with
 |nil=>exact .nil
 |@cons p q ps qs h t ih =>
  obtain⟨h1,h2⟩:=h;rw[yw,yw];by_cases e:p.1=k
  .have a:¬ decide (p.1≠k)=ak:=by simp[e]
   have b:¬ decide (q.1≠k)=ak:=by simp[h1.symm.trans e]
   rw[if_neg a,if_neg b];exact ih
  .have e':¬ q.1=k:=λz=>e (h1.trans z);have a:decide (p.1≠k)=ak:=by simp[e]
   have b:decide (q.1≠k)=ak:=by simp[e']
   rw[if_pos a,if_pos b];exact .cons ⟨h1,h2⟩ ih
theorem KV.keys{kvs:List (κ×V)}{vs:List (κ×aq)}(r:KV kvs vs):kvs.map (·.1)=vs.map (·.1):=by
 unfold KV at r
 induction r with
 |nil=>rfl
 |cons h t ih=>rw[iy,iy,ih,h.1]
theorem KV.length{kvs:List (κ×V)}{vs:List (κ×aq)}(r:KV kvs vs):kvs.length=vs.length:=Paired.length r
theorem a69(kvs:List (κ×V))(k:κ):(uD kvs k).length<=kvs.length:=yx _ _
end
theorem a0A{w:jf}{k:Key}(r:RelV (kV k) u):(aF P w).is k u=ak:=by
 cases k with
 |inl i=>obtain⟨t,e⟩:=(show ∃t,u=aq.int i t from r);subst e;exact a3R P w i t
 |inr x=>obtain⟨t,e⟩:=(show ∃t,u=aq.str x t from r);subst e;exact adJ P w x t
theorem a1Z{w:jf}:∀{ks:List Key}{us:List aq},Vals (ks.map kV) us->ItemsAre (aF P w) ks us
 |[],_,r=>by rw[a2m]at r;cases r;exact .nil
 |k::ks,_,r=>by
  rw[iy]at r;cases r with
  |cons h t=>exact .cons (a0A h) (a1Z t)
noncomputable abbrev KT(H:Hp):List (List Key×V)->List (List Key×bw×aq)->Prop:=Paired λp q=>p.1=q.1/\H q.2.1=aj (.tup (p.1.map kV))/\RelV p.2 q.2.2
theorem KT.val(r:KT H kvs xs)(k:List Key):sU (uU kvs k) ((atKey xs k).map (·.2)):=by
 induction r with
 |nil=>exact True.intro
 |@cons p q ps qs h t ih =>
  obtain⟨h1,_,h2⟩:=h;by_cases e:p.1=k
  .have e':q.1=k:=h1.symm.trans e;have b:atKey (q::qs) k=aj q.2:=by simp[atKey,a0h,e']
   rw[uY e,b];exact h2
  .have e':¬ q.1=k:=λz=>e (h1.trans z);have b:atKey (q::qs) k=atKey qs k:=by simp[atKey,a0h,e']
   rw[uZ e,b];exact ih
theorem KT.repl{kvs:List (List Key×V)}{xs:List (List Key×bw×aq)}(r:KT H kvs xs)(k:List Key)(ry:RelV y u) :
  KT H (kvs.map λkv=>if kv.1=k then(kv.1,y)else kv) (xs.map (putAt k u)):=by
 induction r with
 |nil=>exact .nil
 |@cons p q ps qs h t ih =>
  rw[iy,iy];refine .cons ?_ ih;obtain⟨h1,h2,h3⟩:=h;unfold putAt;by_cases e:p.1=k
  .rw[if_pos e,if_pos (h1.symm.trans e)];exact⟨h1,h2,ry⟩
  .rw[if_neg e,if_neg (λz=>e (h1.trans z))];exact⟨h1,h2,h3⟩
theorem KT.put(r:KT H kvs xs)(k:List Key)(hb:H b=aj (.tup (k.map kV)))(ry:RelV y u) :
  KT H (putK kvs k y) (a0i xs k b u):=by
 have e:(kvs.any λkv=>decide (kv.1=k))=(atKey xs k).isSome:=by
  rw[a68,(r.val k).nW,a2c]
 unfold putK a0i;rw[e];by_cases q:(atKey xs k).isSome=ak
 .rw[if_pos q,if_pos q];exact r.repl k ry
 .rw[if_neg q,if_neg q];exact Paired.snoc r ⟨rfl,hb,ry⟩
theorem KT.keeps(r:KT H kvs xs)(ht:∀b ys,H b=aj (.tup ys)->H' b=aj (.tup ys)):KT H' kvs xs :=
 Paired.z9 r λ_ _ z=>⟨z.1,ht _ _ z.2.1,z.2.2⟩
section
variable{w:jf}{h:jj}{a:bw}
theorem ayI(ok:xQ P w H h)(e:Rd H a u):dW P w H h a u:=e.ok ok
theorem uE{kvs:List (Key×V)}(ok:xQ P w H h)(e:Rd H a (.dK kvs)):kvs.length<=cu/\(a==nj)=ao/\∃vs,KV kvs vs/\h.DictOf (aF P w) a vs :=
 show dW P w H h a (.dK kvs)from ayI ok e
theorem a3V{kvs:List (Key×V)}(ok:xQ P w H h)(e:H a=aj (.dK kvs)):kvs.length<=cu/\(a==nj)=ao/\∃vs,KV kvs vs/\h.DictOf (aF P w) a vs:=uE ok (.inl e)
theorem sY{ks:List Key}(ok:xQ P w H h)(e:H a=aj (.tup (ks.map kV))):(a0d (aF P w)).is h ks a:=by
 obtain⟨_,its,r,o,h1,h2,n,h3⟩:=(show dW P w H h a (.tup (ks.map kV))from ok a _ e);exact⟨o,its.toArray,n,h1,h2,h3,by simpa using a1Z r⟩
variable{kvs:List (List Key×V)}
theorem yL(ok:xQ P w H h)(e:Rd H a (.dT kvs)):kvs.length<=cu/\(a==nj)=ao /\
  ∃xs,KT H kvs xs/\h.DictOfH (a0d (aF P w)) a xs:=by
 obtain⟨z,y,xs,r,o,es,ep,h1,h2,h3,h4,h5⟩:=(show dW P w H h a (.dT kvs)from ayI ok e);refine⟨z,y,xs,r,o,es,ep,h1,h2,h3,h4,λx hx=>?_,h5⟩
 have all:∀{l:List (List Key×V)}{m:List (List Key×bw×aq)},KT H l m->∀x∈m,(a0d (aF P w)).is h x.1 x.2.1:=by
  intro l m q
  induction q with
  |nil=>intro x hx;exact nomatch hx
  |@cons p q ps qs hq t ih =>
   intro x hx;rcases je.mp hx with e|hx
   .subst e;exact sY ok (by rw[←hq.1];exact hq.2.1)
   .exact ih x hx
 exact all r x hx
theorem adO(ok:xQ P w H h)(e:H a=aj (.dT kvs)):kvs.length<=cu/\(a==nj)=ao /\
  ∃xs,KT H kvs xs/\h.DictOfH (a0d (aF P w)) a xs:=yL ok (.inl e)
end
noncomputable def zB(H:Hp)(a:bw)(y:V)(r:Option V):Prop :=
 (∃kvs k,Rd H a (.dK kvs)/\y=kV k/\r=uU kvs k)∨∃kvs k b,Rd H a (.dT kvs)/\y=.ref b/\H b=aj (.tup (k.map kV))/\r=uU kvs k
noncomputable def ah7(H:Hp)(a:bw)(y v:V)(H':Hp):Prop :=
 (∃kvs k,H a=aj (.dK kvs)/\y=kV k/\kvs.length<cu/\H'=upd H a (.dK (putK kvs k v))) ∨
 ∃kvs k b,H a=aj (.dT kvs)/\y=.ref b/\H b=aj (.tup (k.map kV))/\kvs.length<cu/\H'=upd H a (.dT (putK kvs k v))
theorem zB.k{a:bw}{k:Key}(e:H a=aj (.dK kvs)):zB H a (kV k) (uU kvs k):=.inl ⟨kvs,k,.inl e,rfl,rfl⟩
theorem zB.t{k:List Key}(e:H a=aj (.dT kvs))(eb:H b=aj (.tup (k.map kV))):zB H a (.ref b) (uU kvs k):=.inr ⟨kvs,k,b,.inl e,rfl,eb,rfl⟩
theorem ah7.k{a:bw}{kvs:List (Key×V)}{k:Key}{v:V}(e:H a=aj (.dK kvs))(hl:kvs.length<cu):ah7 H a (kV k) v (upd H a (.dK (putK kvs k v))):=.inl ⟨kvs,k,e,rfl,hl,rfl⟩
theorem ah7.t{kvs:List (List Key×V)}{k:List Key}(e:H a=aj (.dT kvs))(eb:H b=aj (.tup (k.map kV)))(hl:kvs.length<cu) :
  ah7 H a (.ref b) v (upd H a (.dT (putK kvs k v))):=.inr ⟨kvs,k,b,e,rfl,eb,hl,rfl⟩
section
variable{X:Cx}{pins:List (bw×Obj)}{s:dh}{a:bw}{v:V}{o:Option V}{A:jr}
theorem Inv.big(I:Inv X pins σ H s):nj<s.heap.objs.size:=by
 have h:ju<s.heap.objs.size:=(I.mod.glob.keeps I.bk).lt;exact Nat.lt_trans (by decide) h
theorem am0(hu:A.units+1<jl)(I:Inv X pins σ H s)(g:zB H a y (aj v))(ry:RelV y u)(h:∀w' s',Inv X pins σ H s'->RelV v w'->Q w' s') :
  dg (fj X.prog X.w) A (getItem (.ref a) u) Q E s:=by
 rcases g with⟨kvs,k,e,ey,l⟩|⟨kvs,k,b,e,ey,eb,l⟩
 .subst ey;obtain⟨z,hd,vs,rel,dd⟩:=uE I.hok e;obtain⟨w',hw,rw'⟩:=sU.some_of (v:=v) (o:=valueAt vs k) (by rw[l];exact rel.val k);exact wpAny_getItem_of (a0A ry) dd.mapOf hw (h w' _ (I.tok _) rw')
 .subst ey;cases(show u=aq.ref b from ry);obtain⟨z,hd,xs,rel,dd⟩:=yL I.hok e;obtain⟨w',hw,rw'⟩:=sU.some_of (v:=v) (o:=(atKey xs k).map (·.2)) (by rw[l];exact rel.val k);obtain⟨p,hp,hp2⟩:=a1b.mp hw;refine wpAny_getItem_heap (yd hu) (sY I.hok eb) dd hp ?_;rw[hp2];exact h w' _ (I.tok _) rw'
theorem aLR(hu:A.units+1<jl)(I:Inv X pins σ H s)(g:zB H a y o)(ry:RelV y u)(h:∀s',Inv X pins σ H s'->Q (.bool o.isSome) s') :
  dg (fj X.prog X.w) A (jd .In u (.ref a)) Q E s:=by
 rcases g with⟨kvs,k,e,ey,l⟩|⟨kvs,k,b,e,ey,eb,l⟩
 .subst ey;obtain⟨z,hd,vs,rel,dd⟩:=uE I.hok e;refine wpAny_in_of (a0A ry) hd dd.mapOf ?_;rw[←(rel.val k).nW,←l];exact h _ (I.tok _)
 .subst ey;cases(show u=aq.ref b from ry);obtain⟨z,hd,xs,rel,dd⟩:=yL I.hok e;refine wpAny_in_heap (yd hu) (sY I.hok eb) hd dd ?_;have q:=(rel.val k).nW;rw[a2c]at q;rw[←q,←l];exact h _ (I.tok _)
theorem au3(hu:A.units+1<jl)(I:Inv X pins σ H s)(g:zB H a y o)(ry:RelV y u)(h:∀s',Inv X pins σ H s'->Q (.bool (!o.isSome)) s') :
  dg (fj X.prog X.w) A (jd .NotIn u (.ref a)) Q E s:=by
 rcases g with⟨kvs,k,e,ey,l⟩|⟨kvs,k,b,e,ey,eb,l⟩
 .subst ey;obtain⟨z,hd,vs,rel,dd⟩:=uE I.hok e;refine wpAny_notIn_of (a0A ry) hd dd.mapOf ?_;rw[←(rel.val k).nW,←l];exact h _ (I.tok _)
 .subst ey;cases(show u=aq.ref b from ry);obtain⟨z,hd,xs,rel,dd⟩:=yL I.hok e;refine wpAny_notIn_heap (yd hu) (sY I.hok eb) hd dd ?_;have q:=(rel.val k).nW;rw[a2c]at q;rw[←q,←l];exact h _ (I.tok _)
theorem sZ{ob:HO}(I:Inv X pins σ H s)(mu:Mut (H a))(hs:jz a s.heap h')(he:∃q,h'.get? a=aj q)(new:dW X.prog X.w (upd H a ob) h' a ob) :
  Inv X pins σ (upd H a ob) {s with heap:=h',toks:=t' } :=
 I.write (x:=a) (e:=a) mu (.inl rfl) (λb q hb z=>(hs.2 b hb).trans z) he new
theorem abJ{w:jf}{kvs:List (Key×V)}(z:kvs.length<=cu)(hd:(a==nj)=ao)(rel:KV kvs vs)(dd:h'.DictOf (aF P w) a vs) :
  dW P w H' h' a (.dK kvs):=⟨z,hd,vs,rel,dd⟩
theorem am1(hu:A.units+1<jl)(I:Inv X pins σ H s)(g:ah7 H a y v H')(ry:RelV y u)(rv:RelV v r)(h:∀s',Inv X pins σ H' s'->Q () s') :
  dg (fj X.prog X.w) A (setItem (.ref a) u r) Q E s:=by
 rcases g with⟨kvs,k,e,ey,l,eH⟩|⟨kvs,k,b,e,ey,eb,l,eH⟩
 .subst ey eH;obtain⟨z,hd,vs,rel,dd⟩:=a3V I.hok e;have hz:vs.length<=cu:=by rw[←rel.length];exact z
  have hl:(putK kvs k v).length<=cu:=by have:=v7 kvs k v;omega
  refine wpAny_setItem_pairs (hsz:=hz) (a0A ry) dd λh' dd' hs=>h _ ?_;have he:∃q,h'.get? a=aj q:=let⟨q,_,_,hq,_⟩:=dd';⟨q,hq⟩
  exact sZ I (by rw[e];exact True.intro) hs he (abJ hl hd (rel.put k rv) dd')
 .subst ey eH;cases(show u=aq.ref b from ry);obtain⟨z,hd,xs,rel,dd⟩:=adO I.hok e;have hz:xs.length<=cu:=by rw[←Paired.length rel];exact z
  have hl:(putK kvs k v).length<=cu:=by have:=v7 kvs k v;omega
  refine wpAny_setItem_heap (hsz:=hz) (yd hu) (sY I.hok eb) dd λh' dd' hs=>h _ ?_;obtain⟨q,es,ep,hq,h2,h3,h4,_,h5⟩:=dd';refine sZ I (by rw[e];exact True.intro) hs ⟨q,hq⟩ ⟨hl,hd,_,(rel.put k eb rv).keeps λc ys ec=>?_,q,es,ep,hq,h2,h3,h4,h5⟩;rw[aU (anQ ec e (λz=>nomatch z))];exact ec
end
section
variable{X:Cx}{pins:List (bw×Obj)}{s:dh}{a:bw}{kvs:List (Key×V)}{k:Key}{A:jr}
theorem aFE(I:Inv X pins σ H s)(e:H a=aj (.dK kvs))(ry:RelV (kV k) u)(l:(uU kvs k).isSome=ak)(h:∀s',Inv X pins σ (upd H a (.dK (uD kvs k))) s'->Q () s') :
  dg (fj X.prog X.w) A (delItem (.ref a) u) Q E s:=by
 obtain⟨z,hd,vs,rel,dd⟩:=a3V I.hok e
 refine wpAny_delItem_slot dd.typeIs (by decide) PySem.F.slot_dict_delitem
  (call_meetsIn PySem.F.slot_dict_delitem dd.typeIs PySem.F.entry_dict_delitem (PySem.F.args_dict_delitem_2 _ _) (meets_dict_delitem_pairs (aF X.prog X.w) a (a0A ry)) ⟨vs,dd,by rw[←rel.length];exact z,by rw[←(rel.val k).nW];exact l,λh' dd' hs=>h _ ?_⟩)
 have he:∃q,h'.get? a=aj q:=let⟨q,_,_,hq,_⟩:=dd';⟨q,hq⟩
 exact sZ I (by rw[e];exact True.intro) hs he (abJ (qj (a69 kvs k) z) hd (rel.drop k) dd')
theorem aGL(I:Inv X pins σ H s)(e:H a=aj (.dK kvs))(ry:RelV (kV k) u)(l:uU kvs k=aj v)(hm:more=[]∨∃x,more=[x])
  (h:∀w' s',Inv X pins σ (upd H a (.dK (uD kvs k))) s'->RelV v w'->Q w' s'):dg (fj X.prog X.w) A (call (.builtin "dict.pop") (.ref a::u::more)) Q E s:=by
 obtain⟨z,hd,vs,rel,dd⟩:=a3V I.hok e;obtain⟨w',hw,rw'⟩:=sU.some_of (v:=v) (o:=valueAt vs k) (by rw[←l];exact rel.val k)
 have hp:(keyPart u).isSome=ak:=by
  cases k with
  |inl i=>obtain⟨t,q⟩:=(show ∃t,u=aq.int i t from ry);subst q;rfl
  |inr x=>obtain⟨t,q⟩:=(show ∃t,u=aq.str x t from ry);subst q;rfl
 have ha:argsOk "dict.pop" ⟨.ref a::u::more,[]⟩:=by
  rcases hm with q|⟨x,q⟩
  .subst q;exact PySem.F.args_dict_pop_2 _ _
  .subst q;exact PySem.F.args_dict_pop_3 _ _ _
 refine call_meetsIn PySem.F.slot_dict_pop dd.typeIs PySem.F.entry_dict_pop ha (meets_dict_pop_there (aF X.prog X.w) a (a0A ry) more hm hp)
  ⟨vs,w',dd,by rw[←rel.length];exact z,hw,λh' dd' hs=>h w' _ ?_ rw'⟩
 have he:∃q,h'.get? a=aj q:=let⟨q,_,_,hq,_⟩:=dd';⟨q,hq⟩
 exact sZ I (by rw[e];exact True.intro) hs he (abJ (qj (a69 kvs k) z) hd (rel.drop k) dd')
theorem aGM(I:Inv X pins σ H s)(e:Rd H a (.dK kvs))(h:∀t s',Inv X pins σ H s'->Q (.int kvs.length t) s'):dg (fj X.prog X.w) A (call (.builtin "len") [.ref a]) Q E s:=by
 obtain⟨z,hd,vs,rel,dd⟩:=uE I.hok e;refine call_len_dict hd dd (by rw[←rel.length];rw[sizeLine_eq]at z;omega) ?_;rw[←rel.length];exact h _ _ (I.tok _)
end
def au4(i:jk):Prop:=∀ov iv,subscripted i ao ov iv=operate [ov,iv] (getItem ov iv)
theorem ajD{prog:jo}{w:jf}{T id:String} 
  (hl:typeLookup (.type T) "__getitem__"=pure (aj (.builtin id)))(hs:au4 slice)
  (h:dg (fj prog w) A (eval value env) (λo s₁=>dg (fj prog w) A (eval slice env) (λi s₂=>s₂.TypeIs o T/\dg (fj prog w) A (getItem o i) Q E s₂) E s₁) E s) :
  dg (fj prog w) A (eval (.Subscript value slice pos) env) Q E s:=by
 refine Subscript_ (qm h (λo s₁ h₁=>qm h₁ (λi s₂ h₂=>?_) λ_ _ x=>x) λ_ _ x=>x);obtain⟨hT,h₂⟩:=h₂;unfold subscriptTail;refine au ?_;rw[getitemInPython_of_ne hT.not_modules];refine au (wpAny_specialOf hT hl ?_)
 have fin:dg (fj prog w) A (subscripted slice ao o i) (λr s₃=>dg (fj prog w) A (letTemporaryGo value o r >>= λ_=>pure r) Q E s₃) E s₂:=by
  rw[hs o i];exact wpAny_operating (qm h₂ (λr s₃ h₃=>au (wpAny_letTemporaryGo (cj h₃))) λ_ _ x=>x)
 first
  |exact cj (au fin)
  |exact au (cj (au fin))
  |exact au fin
theorem adQ(I:Inv X pins σ H s)(g:zB H a y o):s.TypeIs (.ref a) "dict":=by
 rcases g with⟨kvs,k,e,_,_⟩|⟨kvs,k,b,e,_,_,_⟩
 .obtain⟨_,_,vs,_,dd⟩:=uE I.hok e;exact dd.typeIs
 .obtain⟨_,_,xs,_,dd⟩:=yL I.hok e;exact dd.typeIs
noncomputable def aGN(td ty:TE):TE:=λσ H Q=>td σ H λx H1=>ty σ H1 λy H2=>∃a v,x=.ref a/\zB H2 a y (aj v)/\Q v H2
noncomputable def aGO(td ty tv:TE):TS:=λD σ H=>tv σ H λv H1=>td σ H1 λx H2=>ty σ H2 λy H3=>∃a H4,x=.ref a/\ah7 H3 a y v H4/\D.nx σ H4
section
variable{X:Cx}{o:jk}{pos:Pos}{ty:TE}
theorem au5(hu:X.A.units+1<jl)(ho:PE X o td)(hi:PE X i ty)(hs:au4 i):PE X (.Subscript o i pos) (aGN td ty):=by
 intro pins s σ H Q I h;refine ajD PySem.F.slot_dict_getitem.lookup hs (cR (ho pins s σ H _ I h) λu s1 ⟨x,H1,I1,rx,q1⟩=>cR (hi pins s1 σ H1 _ I1 q1) ?_);rintro iv s2 ⟨y,H2,I2,ry,a,v,ex,g,q2⟩;subst ex;obtain rfl:u=aq.ref a:=rx;exact⟨adQ I2 g,am0 hu I2 g ry λw' s3 I3 rw'=>⟨v,H2,I3,rw',q2⟩⟩
theorem au6(hu:X.A.units+1<jl)(ho:PE X o td)(hi:PE X i ty)(hv:PE X value tv)(hs:a0z value (aj (.Subscript o i pos')) pos.line X.env=pure ao) :
  PS X (.Assign [.Subscript o i pos'] value pos) (aGO td ty tv):=by
 intro pins s σ H D I h;refine wpAny_Assign_Subscript (cR (hv pins s σ H _ I h) λr s1 ⟨v,H1,I1,rv,q1⟩=>cR (ho pins s1 σ H1 _ I1 q1) λu s2 ⟨x,H2,I2,rx,q2⟩=>cR (hi pins s2 σ H2 _ I2 q2) ?_) hs;rintro iv s3 ⟨y,H3,I3,ry,a,H4,ex,g,q3⟩;subst ex;obtain rfl:u=aq.ref a:=rx;exact am1 hu I3 g ry rv λs4 I4=>⟨σ,H4,I4,q3⟩
end
theorem ao6{w:jf}(h:jj)(hb:nj<h.objs.size):dW P w H (h.push {cls:=.type "dict",data:=.dict #[]}) h.objs.size (.dK []) :=
 ⟨vh _,beq_eq_false_iff_ne.mpr (Ne.symm (jc hb)),[],.nil,Heap.DictOf.new h⟩
theorem ao7{w:jf}(h:jj)(hb:nj<h.objs.size):dW P w H (h.push {cls:=.type "dict",data:=.dict #[]}) h.objs.size (.dT []) :=
 ⟨vh _,beq_eq_false_iff_ne.mpr (Ne.symm (jc hb)),[],.nil,_,#[],0,ig _ rfl,⟨rfl,rfl,rfl⟩,rfl,rfl,a0q⟩
noncomputable def aAW:TE:=λ_ H Q=>∀p,H p=bh->Q (.ref p) (upd H p (.dK []))
noncomputable def aAX:TE:=λ_ H Q=>∀p,H p=bh->Q (.ref p) (upd H p (.dT []))
section
variable{pos:Pos}
theorem ao8:PE X (.Dict [] [] pos) aAW:=λpins s σ H Q I h =>
 wpAny_Dict_empty ⟨.ref s.heap.objs.size,_,I.laid (a:=s.heap.objs.size) (o:=.dK []) (t':=s.toks) (λ_ _ q=>cg _ q) (dz _) (ao6 s.heap I.big),rfl,h _ (I.hok.fresh (dz _))⟩
theorem adR:PE X (.Dict [] [] pos) aAX:=λpins s σ H Q I h =>
 wpAny_Dict_empty ⟨.ref s.heap.objs.size,_,I.laid (a:=s.heap.objs.size) (o:=.dT []) (t':=s.toks) (λ_ _ q=>cg _ q) (dz _) (ao7 s.heap I.big),rfl,h _ (I.hok.fresh (dz _))⟩
end
structure M1(X:Cx)(o:jk)(m:Str)(apos:Pos)(e:jk)(cpos:Pos):Prop where
 base:uh o m X.env (eval o X.env)=eval o X.env
 few:((rm cpos (jg [e] X.env)).all (λx=>!x.1)&&(backToKw cpos (a0b [] X.env)).all (λx=>x.1.isSome)
  &&decide (([e]:List jk).length+([]:List a0j).length+(if([]:List a0j).isEmpty then 0 else 1)<30))=ak
 line:(apos.endLine==cpos.line)=ak
 trees:rm cpos (jg [e] X.env)=[(ao,eval e X.env)]
structure M2(X:Cx)(o:jk)(m:Str)(apos:Pos)(e f:jk)(cpos:Pos):Prop where
 base:uh o m X.env (eval o X.env)=eval o X.env
 few:((rm cpos (jg [e,f] X.env)).all (λx=>!x.1)&&(backToKw cpos (a0b [] X.env)).all (λx=>x.1.isSome)
  &&decide (([e,f]:List jk).length+([]:List a0j).length+(if([]:List a0j).isEmpty then 0 else 1)<30))=ak
 line:(apos.endLine==cpos.line)=ak
 trees:rm cpos (jg [e,f] X.env)=[(ao,eval e X.env),(ao,eval f X.env)]
def IsD(H:Hp)(a:bw):Prop:=(∃kvs,Rd H a (.dK kvs))∨∃kvs,Rd H a (.dT kvs)
theorem a2A(I:Inv X pins σ H s)(d:IsD H a) :
  s.TypeIs (.ref a) "dict"/\(∀b,aq.ref a=.ref b->∃ob,s.heap.get? b=aj ob/\ob.dict=bh)/\(a==nj)=ao:=by
 rcases d with⟨kvs,e⟩|⟨kvs,e⟩
 .obtain⟨_,hd,vs,_,dd⟩:=uE I.hok e;refine⟨dd.typeIs,λb q=>?_,hd⟩;cases q;obtain⟨ob,_,_,h1,h2,_⟩:=dd;exact⟨ob,h1,h2.2.1⟩
 .obtain⟨_,hd,xs,_,dd⟩:=yL I.hok e;refine⟨dd.typeIs,λb q=>?_,hd⟩;cases q;obtain⟨ob,_,_,h1,h2,_⟩:=dd;exact⟨ob,h1,h2.2.1⟩
section
variable{X:Cx}{pins:List (bw×Obj)}{s:dh}{a:bw}{o:Option V}{A:jr}
theorem aAY(hu:A.units+1<jl)(I:Inv X pins σ H s)(g:zB H a y o)(ry:RelV y u)(rd:RelV d r)(h:∀w' s',Inv X pins σ H s'->RelV (o.getD d) w'->Q w' s') :
  dg (fj X.prog X.w) A (call (.builtin "dict.get") [.ref a,u,r]) Q E s:=by
 rcases g with⟨kvs,k,e,ey,l⟩|⟨kvs,k,b,e,ey,eb,l⟩
 .subst ey;obtain⟨z,hd,vs,rel,dd⟩:=uE I.hok e;refine call_meetsIn PySem.F.slot_dict_get dd.typeIs PySem.F.entry_dict_get (PySem.F.args_dict_get_3 _ _ _) (meets_dict_get_default (aF X.prog X.w) a (a0A ry) hd r) ⟨_,dd.mapOf,h _ _ (I.tok _) ?_⟩;rw[l];exact(rel.val k).getD rd
 .subst ey;cases(show u=aq.ref b from ry);obtain⟨z,hd,xs,rel,dd⟩:=yL I.hok e;refine call_meetsIn PySem.F.slot_dict_get dd.typeIs PySem.F.entry_dict_get (PySem.F.args_dict_get_3 _ _ _) (meetsH_dict_get_default (a0d (aF X.prog X.w)) a b hd r) ⟨yd hu,k,xs,sY I.hok eb,dd,h _ _ (I.tok _) ?_⟩;rw[l];exact(rel.val k).getD rd
end
noncomputable def aAZ(td ty tx:TE):TE:=λσ H Q=>td σ H λx H1=>∃a,x=.ref a/\IsD H1 a/\ty σ H1 λy H2=>tx σ H2 λz H3=>∃o,zB H3 a y o/\Q (o.getD z) H3
section
variable{X:Cx}{o:jk}{ty:TE}
theorem ao9(hu:X.A.units+1<jl)(ho:PE X o td)(he:PE X e ty)(hf:PE X f tx)(m:M2 X o "get" apos e f cpos):PE X (.Call (.Attribute o "get" apos) [e,f] [] cpos) (aAZ td ty tx):=by
 intro pins s σ H Q I h;refine wpAny_Call_method m.base m.few m.line PySem.F.plainAttrs_dict PySem.F.slot_dict_get PySem.F.type_dict_get (cR (ho pins s σ H _ I h) ?_);rintro u s1 ⟨x,H1,I1,rx,a,ex,d,q1⟩;subst ex;obtain rfl:u=aq.ref a:=rx;obtain⟨t1,t2,_⟩:=a2A I1 d;refine⟨t1,t2,?_⟩;rw[m.trees]
 refine Calls.callWith_builtin rfl (Calls.evalArgs_plain (Calls.spliced_cons (cR (he pins s1 σ H1 _ I1 q1) λiv s2 ⟨y,H2,I2,ry,q2⟩ =>
  Calls.spliced_cons (cR (hf pins s2 σ H2 _ I2 q2) λfv s3 ⟨z,H3,I3,rz,ov,g,q3⟩=>Calls.spliced_nil ?_))))
 exact aAY hu I3 g ry rz λw' s4 I4 rw'=>⟨_,H3,I4,rw',q3⟩
end
section
end
section
end
end
end L2
namespace HT
open PySem PyProof.Rows
noncomputable def lexLt:List Int->List Int->Bool
 |[],[]=>ao
 |[],_::_=>ak
 |_::_,[]=>ao
 |x::xs,y::ys=>if x=y then lexLt xs ys else decide (x<y)
theorem ah8(x y:Int)(xs ys:List Int):lexLt (x::xs) (y::ys)=if x=y then lexLt xs ys else decide (x<y):=rfl
theorem a8X:lexLt [] []=ao:=rfl
theorem a6A(y:Int)(ys:List Int):lexLt [] (y::ys)=ak:=rfl
theorem a6B(x:Int)(xs:List Int):lexLt (x::xs) []=ao:=rfl
theorem aoA(A:jr)(s:dh)(a:Int)(t:Tok)(c:Int)(u:Tok):∃e,SeqAt.EqAt A s (.int a t) (.int c u) e/\(e=ak↔a=c) :=
 ⟨(a==c),SeqAt.EqAt.int_int a t c u,by simp⟩
theorem adS(A:jr)(s:dh)(a:Int)(t:Tok)(c:Int)(u:Tok)(prog:jo)(w:jf)(E:aq->dh->Prop)(Q:aq->dh->Prop)(h:Q (.bool (decide (a<c))) s) :
  dg (fj prog w) A (richCompare .Lt (.int a t) (.int c u)) Q E s :=
 (PyProof.Rows.lt_int h:dg (fj prog w) A (jd .Lt (.int a t) (.int c u)) Q E s)
section
open PySem.SeqAt
open PySem.AutoSeq1 (wpAny_loadPart')
open PySem.MeetsSeq PySem.MeetsSeq2 PySem.MeetsSeq3
set_option tactic.hygienic true in
theorem a8Y(l b:bw)(items items2:Array aq)(n n2:Nat)(dd dd2:Option bw)(sl sl2:Array (Option aq))(ns ms:List Int)(hi:a0w items.toList ns)(hj:a0w items2.toList ms) :
  Meets (Builtin.«tuple.__lt__» ⟨[.ref l,.ref b],[]⟩)
   (λ_ R s=>s.heap.get? l=aj {cls:=.type "tuple",dict:=dd,data:=.seq items n,slots:=sl}/\s.heap.get? b=aj {cls:=.type "tuple",dict:=dd2,data:=.seq items2 n2,slots:=sl2} /\
    R (.ok (.ret (.bool (lexLt ns ms)))) s) :=
 .of_wp λprog w A R s h=>by
  obtain⟨hp,g,d,tk,os⟩:=s;obtain⟨hl,hb,h⟩:=h;have f2:=AutoSeq1.sub_tuple_tuple;have z1:items.size=ns.length:=by rw[←hi.length];simp
  have z2:items2.size=ms.length:=by rw[←hj.length];simp
  wp_walk using wpAny_loadPart' hl,wpAny_loadPart' hb,wpAny_forIn_list _ (λrest b s'=>b.1=bh/\s'=⟨hp,g,d,tk,os⟩/\∃(vs ws:List aq)(ns' ms':List Int),rest=vs.zip ws /\
   a0w vs ns'/\a0w ws ms'/\ns'.length+items2.size=ms'.length+items.size/\R (.ok (.ret (.bool (lexLt ns' ms')))) ⟨hp,g,d,tk,os⟩) _
  case turn =>
   rintro⟨y,x⟩ rest b s' ⟨hb',rfl,vs,ws,ns',ms',hz,hvi,hwi,hlen,hR⟩;cases hvi with
   |nil=>rw[List.zip_nil_left]at hz;cases hz
   |cons a t aLT =>
    cases hwi with
    |nil=>rw[List.zip_nil_right]at hz;cases hz
    |cons c u aLU =>
     rw[List.zip_cons_cons]at hz;injection hz with hyx hrest;injection hyx with hy hx;subst hy hx;rw[ah8]at hR;simp only[lg]at hlen;obtain⟨e,he,hiff⟩:=aoA A.in1 ⟨hp,g,d,tk,os⟩ a t c u;refine au (he prog w _ _ ?_);cases e with
     |true =>
      rw[if_pos (hiff.mp rfl)]at hR
      wp_walk
      exact⟨rfl,rfl,_,_,_,_,hrest,aLT,aLU,by omega,hR⟩
     |false =>
      rw[if_neg (λq=>absurd (hiff.mpr q) oh)]at hR;have hri:=adS A.in1 ⟨hp,g,d,tk,os⟩ a t c u prog w
      wp_walk using hri
      exact⟨_,rfl,by simpa using hR⟩
  case fin =>
   rintro⟨b1,b2⟩ s' ⟨hb',rfl,vs,ws,ns',ms',hz,hvi,hwi,hlen,hR⟩;simp only at hb';subst hb'
   have hv:lexLt ns' ms'=decide (items.size<items2.size):=by
    cases hvi with
    |nil =>
     cases hwi with
     |nil =>
      simp only[a2l]at hlen;rw[a8X];exact(decide_eq_false (by omega)).symm
     |cons c u hw =>
      simp only[a2l,lg]at hlen;rw[a6A];exact(decide_eq_true (by omega)).symm
    |cons a t hv =>
     cases hwi with
     |nil =>
      simp only[a2l,lg]at hlen;rw[a6B];exact(decide_eq_false (by omega)).symm
     |cons c u hw =>
      rw[List.zip_cons_cons]at hz;cases hz
   rw[hv]at hR
   wp_walk
   exact⟨_,rfl,by simpa[Builtin.Tuple.tupleCompareSizes]using hR⟩
  case h =>
   exact⟨rfl,rfl,items.toList,items2.toList,ns,ms,rfl,hi,hj,by omega,h⟩
end
variable{b:bw}
section
variable{prog:jo}{w:jf}{A:jr}{s:dh}
theorem ah9{items items2:Array aq}{ns:List Int}(hl:IsTup s.heap l items)(hb:IsTup s.heap b items2)(hi:a0w items.toList ns)(hj:a0w items2.toList ms)
  (hu:A.units<jl)(h:Q (.bool (lexLt ns ms)) s):dg (fj prog w) A (jd .Lt (.ref l) (.ref b)) Q E s:=by
 obtain⟨⟨cls,dd,data,sl⟩,ho,hc,n,hd⟩:=id hl;obtain⟨⟨cls2,dd2,data2,sl2⟩,ho2,hc2,n2,hd2⟩:=id hb;simp only at hc hd hc2 hd2;subst hc hd hc2 hd2
 exact richCompare_meets_room (op:=.Lt) ⟨_,ho,rfl⟩ ⟨_,ho2,rfl⟩ PySem.F.slot_tuple_lt PySem.F.entry_tuple_lt (PySem.F.args_tuple_lt_2 _ _) (a8Y l b items items2 n n2 dd dd2 sl sl2 ns ms hi hj)
  ⟨ho,ho2,show aq.bool (lexLt ns ms)≠aq.notImplemented/\Q (.bool (lexLt ns ms)) s from⟨(λx=>nomatch x),h⟩⟩ hu
theorem au7{t:bw}{vs ws:List aq}(ht:IsTup s.heap t vs.toArray)(hb:IsTup s.heap b ws.toArray)(hv:vs≠[])
  (h1:ws=[]->Q (.ref t) s)(h2:ws≠[]->Q (.ref s.heap.objs.size) {s with heap:=s.heap.push {cls:=.type "tuple",data:=.seq (vs++ws).toArray}})
  (hsz:vs.length+ws.length<=cu):dg (fj prog w) A (wu .Add (.ref t) (.ref b)) Q E s:=by
 obtain⟨⟨cls,dd,data,sl⟩,ho,hc,n,hd⟩:=id ht;obtain⟨⟨cls2,dd2,data2,sl2⟩,ho2,hc2,n2,hd2⟩:=id hb;simp only at hc hd hc2 hd2;subst hc hd hc2 hd2;have e:vs.toArray++ws.toArray=(vs++ws).toArray:=by simp
 by_cases hw:ws=[]
 .exact concat_meets ⟨_,ho,rfl⟩ ⟨_,ho2,rfl⟩ noFill_tuple_add seq_tuple_add PySem.F.slot_tuple_add PySem.F.entry_tuple_add (PySem.F.args_tuple_add_2 _ _)
   (tuple_addW1 t b vs.toArray ws.toArray n n2 dd dd2 sl sl2 (by simpa using hv) (by simp[hw])) ⟨ho,ho2,h1 hw⟩
 .refine concat_meets ⟨_,ho,rfl⟩ ⟨_,ho2,rfl⟩ noFill_tuple_add seq_tuple_add PySem.F.slot_tuple_add PySem.F.entry_tuple_add (PySem.F.args_tuple_add_2 _ _)
   (tuple_addW2 t b vs.toArray ws.toArray n n2 dd dd2 sl sl2 (by simpa using hv) (by simpa using hw) (by rw[gk,gk];exact hsz)) ⟨ho,ho2,?_⟩
  rw[e];exact h2 hw
noncomputable def sIx(n d:Nat):Option Int->Nat
 |none=>d
 |some v=>if v<0 then(v+(n:Int)).toNat else min v.toNat n
end
end HT
namespace L2
open PySem PySem.Spec PyProof.Rows
section
abbrev TO:=St->Hp->(Option Int->Hp->Prop)->Prop
noncomputable def PO(X:Cx)(e:Option jk)(t:TO):Prop :=
 ∀(pins:List (bw×Obj))(s:dh)(σ:St)(H:Hp)(Q:Option Int->Hp->Prop),Inv X pins σ H s->t σ H Q ->
  dg (fj X.prog X.w) X.A (evalPart e X.env) (λu s'=>∃o H',Inv X pins σ H' s'/\IsPart u o/\Q o H') X.xe s
noncomputable def au8:TO:=λ_ H Q=>Q bh H
noncomputable def aGP(t:TE):TO:=λσ H Q=>t σ H λx H1=>∃i,x=.int i/\Q (aj i) H1
theorem intsAre_of{ns:List Int}:∀{us:List aq},Vals (ns.map V.int) us->a0w us ns:=by
 induction ns with
 |nil=>intro us r;rw[a2m]at r;cases r;exact .nil
 |cons n ns ih =>
  intro us r;rw[iy]at r;cases r with
  |cons r1 r2 =>
   obtain⟨t,e⟩:=r1;subst e;exact .cons n t (ih r2)
section
variable{X:Cx}{lo hi:Option jk}
theorem au9:PO X bh au8:=by
 intro pins s σ H Q I h;rw[evalPart_none];exact cj ⟨bh,H,I,.none,h⟩
theorem auA(h:PE X e te):PO X (aj e) (aGP te):=by
 intro pins s σ H Q I hw;rw[evalPart_some];refine cR (h pins s σ H _ I hw) ?_;rintro u s1 ⟨x,H1,I1,r1,q1⟩;obtain⟨i,rfl,q⟩:=q1;obtain⟨t,rfl⟩:=r1;exact⟨aj i,H1,I1,.int i t,q⟩
noncomputable def SlR(X:Cx)(r:V->Option Int->Option Int->Hp->VK->Prop):Prop :=
 ∀(pins:List (bw×Obj))(s:dh)(σ:St)(H:Hp)(x:V)(v vl vu:aq)(lo hi:Option Int)(sl:bw)(Q:VK),Inv X pins σ H s->RelV x v->s.heap.IsSliceOf sl vl vu .none->IsPart vl lo->IsPart vu hi->r x lo hi H Q ->
  ∃T id,typeLookup (.type T) "__getitem__"=pure (aj (.builtin id))/\s.TypeIs v T/\dg (fj X.prog X.w) X.A (getItem v (.ref sl)) (EP X pins σ Q) X.xe s
theorem SlR.or(h:SlR X r)(h':SlR X r'):SlR X (λx lo hi H Q=>r x lo hi H Q∨r' x lo hi H Q):=by
 intro pins s σ H x v vl vu lo hi sl Q I rx hs pl pu q;rcases q with q|q
 .exact h pins s σ H x v vl vu lo hi sl Q I rx hs pl pu q
 .exact h' pins s σ H x v vl vu lo hi sl Q I rx hs pl pu q
noncomputable def auB(xs:List V)(lo hi:Option Int):List V:=(xs.drop (HT.sIx xs.length 0 lo)).take (HT.sIx xs.length xs.length hi - HT.sIx xs.length 0 lo)
theorem adT(xs:List V)(lo hi:Option Int):(auB xs lo hi).length<=xs.length:=by
 unfold auB;rw[a1q,List.length_drop];omega
noncomputable def aGR(K:iw):R2:=λx y H Q=>∃a b xs ys,x=.ref a/\y=.ref b/\yK K H a xs/\yK K H b ys/\xs≠[]/\xs.length+ys.length<=cu /\
 (ys=[]->Q (.ref a) H)/\(ys≠[]->∀p,H p=bh->Q (.ref p) (upd H p (.tup (xs++ys))))
theorem Vals.a0B(r:Vals xs us):us=[]↔xs=[]:=by
 cases r with
 |nil=>simp
 |cons _ _=>simp
theorem auC:rA X (wu .Add) (aGR X.K):=by
 intro pins s σ H x y v u Q I rx ry h;obtain⟨a,b,xs,ys,rfl,rfl,ha,hb,hx,hz,q1,q2⟩:=h;cases rx;cases ry;obtain⟨its,r1,p1,_⟩:=I.tuple ha;obtain⟨its2,r2,p2,_⟩:=I.tuple hb;refine HT.au7 p1 p2 (λz=>hx (r1.a0B.mp z)) (λz=>⟨.ref a,H,I,rfl,q1 (r2.a0B.mp z)⟩) (λz=>?_) (by rw[←r1.length,←r2.length];exact hz);refine⟨.ref s.heap.objs.size,_,I.laid (t':=s.toks) (o:=.tup (xs++ys)) (λb ob q=>cg _ q) (dz _) ?_,rfl,q2 (λw=>z (r2.a0B.mpr w)) _ (I.hok.fresh (dz _))⟩;exact⟨by rw[uc];exact hz,_,r1.append r2,IsTup.new _ _⟩
end
end
variable{n:Nat}{i:Int}{pins:List (bw×Obj)}{s:dh}{xs:List V}{x:V}{v:aq}
section
noncomputable def ixN(n:Nat)(i:Int):Option Nat:=if 0<=i then(if i<n then aj i.toNat else bh)else if -(n:Int)<=i then aj (i+n).toNat else bh
noncomputable def atI{α:Type}(xs:List α)(i:Int):Option α:=(ixN xs.length i).bind λj=>xs[j]?
theorem auD{j:Nat}(h:ixN n i=aj j):seqIndex? i n=aj j/\j<n/\-(n:Int)<=i/\i<n:=by
 unfold ixN at h;by_cases h0:0<=i
 .rw[if_pos h0]at h;by_cases h1:i<n
  .rw[if_pos h1]at h;have e:i.toNat=j:=iz.inj h;exact⟨by rw[seqIndex_of h0 h1,e],by omega,by omega,h1⟩
  .rw[if_neg h1]at h;cases h
 .rw[if_neg h0]at h;by_cases h1:-(n:Int)<=i
  .rw[if_pos h1]at h;have e:(i+n).toNat=j:=iz.inj h;exact⟨by rw[seqIndex_neg (by omega) h1,e],by omega,h1,by omega⟩
  .rw[if_neg h1]at h;cases h
theorem abK{α:Type}{xs:List α}{v:α}(h:atI xs i=aj v):∃j,seqIndex? i xs.length=aj j/\xs[j]?=aj v/\j<xs.length/\-(xs.length:Int)<=i/\i<xs.length:=by
 unfold atI at h;cases e:ixN xs.length i with
 |none=>rw[e]at h;cases h
 |some j =>
  rw[e]at h;obtain⟨h1,h2,h3,h4⟩:=auD e;exact⟨j,h1,h,h2,h3,h4⟩
def abL(b:jk):Prop:=∀o i,subscripted b ao o i=operate [o,i] (getItem o i)
noncomputable def IxR(X:Cx)(r:R2):Prop :=
 ∀(value slice:jk)(pins:List (bw×Obj))(s:dh)(σ:St)(H:Hp)(x y:V)(v u:aq)(Q:VK),Inv X pins σ H s->RelV x v->RelV y u->r x y H Q ->
  subscripted slice ao v u=operate [v,u] (getItem v u)->dg (fj X.prog X.w) X.A (subscriptTail value slice v u) (EP X pins σ Q) X.xe s
noncomputable def MtR(X:Cx)(id:String)(r:V->List V->Hp->VK->Prop):Prop :=
 ∀(pins:List (bw×Obj))(s:dh)(σ:St)(H:Hp)(x:V)(xs:List V)(v:aq)(us:List aq)(Q:VK),Inv X pins σ H s->RelV x v->Vals xs us->r x xs H Q ->
  dg (fj X.prog X.w) X.A (call (.builtin id) (v::us)) (EP X pins σ Q) X.xe s
section
variable{X:Cx}{a b:jk}{pos:Pos}
theorem IxR.or(h:IxR X r)(h':IxR X r'):IxR X (λx y H Q=>r x y H Q∨r' x y H Q):=by
 intro value slice pins s σ H x y v u Q I rx ry q hs;rcases q with q|q
 .exact h value slice pins s σ H x y v u Q I rx ry q hs
 .exact h' value slice pins s σ H x y v u Q I rx ry q hs
theorem MtR.or{id:String}(h:MtR X id r)(h':MtR X id r'):MtR X id (λx xs H Q=>r x xs H Q∨r' x xs H Q):=by
 intro pins s σ H x xs v us Q I rx rs q;rcases q with q|q
 .exact h pins s σ H x xs v us Q I rx rs q
 .exact h' pins s σ H x xs v us Q I rx rs q
theorem aGT(hr:IxR X r)(ha:PE X a ta)(hb:PE X b tb)(hs:abL b):PE X (.Subscript a b pos) (tOp r ta tb):=by
 intro pins s σ H Q I h;exact Subscript_ (aAH ha hb I h λv u s2 x y H2 I2 rx ry q=>hr a b pins s2 σ H2 x y v u Q I2 rx ry q (hs _ _))
noncomputable def aGU(K:iw):R2:=λx y H Q=>∃p xs i v,x=.ref p/\y=.int i/\yJ K H p xs/\atI xs i=aj v/\Q v H
noncomputable def aGV(K:iw):R2:=λx y H Q=>∃p xs i v,x=.ref p/\y=.int i/\yK K H p xs/\atI xs i=aj v/\Q v H
noncomputable def aGW:R2:=λx y H Q=>∃z i c,x=.str z/\y=.int i/\z.length<=cu/\atI z.cps.toList i=aj c/\Q (.str ⟨#[c]⟩) H
theorem auF:IxR X (aGU X.K):=by
 intro value slice pins s σ H x y v u Q I rx ry h hs;obtain⟨p,xs,i,z,rfl,rfl,hq,he,q⟩:=h;cases rx;obtain⟨t,rfl⟩:=ry;obtain⟨its,r,pl,hz⟩:=I.list hq;obtain⟨j,h1,h2,h3,h4,h5⟩:=abK he;obtain⟨w,ew,rw'⟩:=r.get h2;have hl:=r.length;have hn:=a66;have fin:EP X pins σ Q w s:=⟨z,H,I,rw',q⟩;by_cases h0:0<=i
 .have hj:i.toNat=j:=by
   rw[seqIndex_of h0 h5]at h1;exact iz.inj h1
  exact item_listR pl.isList h0 (by omega) (by rw[hj];simpa using ew) fin hs
 .have hj:(i+(its.toArray.size:Int)).toNat=j:=by
   rw[seqIndex_neg (by omega) h4]at h1;rw[gk,←hl];exact iz.inj h1
  exact subscriptTail_builtinR (x:=w) pl.isList.typeIs slot_list_getitem.lookup
   (wpAny_getItem_list_neg (Q:=λr s'=>r=w/\EP X pins σ Q r s') pl.isList (by omega) (by rw[gk]<;>omega) (by omega) (by rw[hj];simpa using ew) ⟨rfl,fin⟩) hs
theorem aB0:IxR X (aGV X.K):=by
 intro value slice pins s σ H x y v u Q I rx ry h hs;obtain⟨p,xs,i,z,rfl,rfl,hq,he,q⟩:=h;cases rx;obtain⟨t,rfl⟩:=ry;obtain⟨its,r,pl,hz⟩:=I.tuple hq;obtain⟨j,h1,h2,h3,h4,h5⟩:=abK he;obtain⟨w,ew,rw'⟩:=r.get h2;have hl:=r.length;have hn:=a66;have fin:EP X pins σ Q w s:=⟨z,H,I,rw',q⟩
 exact subscriptTail_builtinR (x:=w) pl.typeIs slot_tuple_getitem.lookup
  (getItem_tuple (j:=j) (Q:=λr s'=>r=w/\EP X pins σ Q r s') pl (by omega) (by omega) (by rw[gk,←hl];exact h1) (by simpa using ew) ⟨rfl,fin⟩) hs
theorem aB1:IxR X aGW:=by
 intro value slice pins s σ H x y v u Q I rx ry h hs;obtain⟨z,i,c,rfl,rfl,hz,he,q⟩:=h;obtain⟨t,rfl⟩:=rx;obtain⟨t',rfl⟩:=ry;obtain⟨j,h1,h2,h3,h4,h5⟩:=abK he;have hl:z.cps.toList.length=z.length:=by simp[Str.length]
 rw[hl]at h1 h4 h5;have hn:=a66
 exact tail_any (typeIs_str s z t) slot_str_getitem.lookup (getItem_str (c:=c) (by
  have e1:decide (i< -(2^63:Int))=ao:=decide_eq_false (by omega);have e2:decide (i≥2^63)=ao:=decide_eq_false (by omega);rw[e1,e2,Bool.or_false]) (by rw[h1];simpa using h2) ⟨.str ⟨#[c]⟩,H,I.tok _,⟨_,rfl⟩,q⟩) hs
noncomputable def rIx(K:iw):R2:=λx y H Q=>aGU K x y H Q∨aGV K x y H Q∨aGW x y H Q
theorem aB2:IxR X (rIx X.K):=auF.or (aB0.or aB1)
theorem Inv.lst{p:bw}(I:Inv X pins σ H s)(h:H p=aj (.lst xs)) :
  ∃(its:List aq)(n:Nat),Vals xs its/\s.heap.get? p=aj {cls:=.type "list",data:=.seq its.toArray n}/\xs.length<=cu:=by
 obtain⟨z,its,n,r,e⟩:=I.hok p _ h;exact⟨its,n,r,e,z⟩
theorem abM(lo hi:Option Int)(n:Nat):(a1s lo hi bh n).1=((HT.sIx n 0 lo:Nat):Int)/\(a1s lo hi bh n).2.1=((HT.sIx n n hi:Nat):Int)/\(a1s lo hi bh n).2.2=1:=by
 refine⟨?_,?_,rfl⟩
 .cases lo with
  |none=>simp[a1s,HT.sIx]
  |some i =>
   simp only[a1s,HT.sIx,Option.getD_none,show(1:Int)>0 by decide,if_true];by_cases h:i<0
   .simp only[h,if_true]<;>omega
   .simp only[h,if_false]<;>omega
 .cases hi with
  |none=>simp[a1s,HT.sIx]
  |some i =>
   simp only[a1s,HT.sIx,Option.getD_none,show(1:Int)>0 by decide,if_true];by_cases h:i<0
   .simp only[h,if_true]<;>omega
   .simp only[h,if_false]<;>omega
theorem a8Z(its:List aq)(lo hi:Option Int):slicePick its.toArray lo hi bh=((its.drop (HT.sIx its.length 0 lo)).take (HT.sIx its.length its.length hi - HT.sIx its.length 0 lo)).toArray:=by
 obtain⟨h1,h2,h3⟩:=abM lo hi its.toArray.size;unfold slicePick;rw[h1,h2,h3];simp only[sliceRange_one,pick_run,gk]<;>rfl
noncomputable def aLV(K:iw):V->Option Int->Option Int->Hp->VK->Prop:=λx lo hi H Q=>∃a xs,x=.ref a/\yJ K H a xs/\∀p,H p=bh->Q (.ref p) (upd H p (.lst (auB xs lo hi)))
theorem aKA:SlR X (aLV X.K):=by
 intro pins s σ H x v vl vu lo hi sl Q I rx hs pl pu h;obtain⟨a,xs,rfl,hx,q⟩:=h;cases rx;obtain⟨its,r,ht,hz⟩:=I.list hx;have hlen:=r.length;refine⟨"list",_,slot_list_getitem.lookup,ht.isList.typeIs,?_⟩;refine wpAny_getItem_list_slice ht.isList hs pl pu .none (by simp) ?_ (by rw[gk]<;>omega);rw[a8Z,←hlen];refine⟨.ref s.heap.objs.size,_,I.laid (t':=s.toks) (o:=.lst (auB xs lo hi)) (λb ob q=>cg _ q) (dz _) ?_,rfl,q _ (I.hok.fresh (dz _))⟩;exact⟨qj (adT xs lo hi) hz,_,0,(r.drop (HT.sIx xs.length 0 lo)).take (HT.sIx xs.length xs.length hi - HT.sIx xs.length 0 lo),ig _ rfl⟩
noncomputable def uF:V->Bool
 |.non=>ak
 |.bl _=>ak
 |.int _=>ak
 |.str _=>ak
 |_=>ao
noncomputable def eqV:V->V->Bool
 |.non,.non=>ak
 |.bl a,.bl b=>a==b
 |.bl a,.int b=>(if a then 1 else 0)==b
 |.int a,.bl b=>a==(if b then 1 else 0)
 |.int a,.int b=>a==b
 |.str a,.str b=>a==b
 |_,_=>ao
theorem a2B{A:jr}(ry:RelV y u)(rx:RelV x v)(fy:uF y=ak)(fx:uF x=ak):SeqAt.EqAt A s u v (eqV y x):=by
 cases y with
 |non =>
  cases ry;cases x with
  |non=>cases rx;exact SeqAt.EqAt.same _
  |bl b=>cases rx;exact SeqAt.EqAt.none_bool b
  |int b=>obtain⟨t,rfl⟩:=rx;exact SeqAt.EqAt.none_int b t
  |str b=>obtain⟨t,rfl⟩:=rx;exact SeqAt.EqAt.none_str b t
  |_=>exact absurd (show ao=ak from fx) oh
 |bl a =>
  cases ry;cases x with
  |non=>cases rx;exact SeqAt.EqAt.bool_none a
  |bl b=>cases rx;exact SeqAt.EqAt.bool_bool a b
  |int b=>obtain⟨t,rfl⟩:=rx;exact SeqAt.EqAt.bool_int a b t
  |str b=>obtain⟨t,rfl⟩:=rx;exact SeqAt.EqAt.bool_str a b t
  |_=>exact absurd (show ao=ak from fx) oh
 |int a =>
  obtain⟨t',rfl⟩:=ry;cases x with
  |non=>cases rx;exact SeqAt.EqAt.int_none a t'
  |bl b=>cases rx;exact SeqAt.EqAt.int_bool a t' b
  |int b=>obtain⟨t,rfl⟩:=rx;exact SeqAt.EqAt.int_int a t' b t
  |str b=>obtain⟨t,rfl⟩:=rx;exact SeqAt.EqAt.int_str a t' b t
  |_=>exact absurd (show ao=ak from fx) oh
 |str a =>
  obtain⟨t',rfl⟩:=ry;cases x with
  |non=>cases rx;exact SeqAt.EqAt.str_none a t'
  |bl b=>cases rx;exact SeqAt.EqAt.str_bool a t' b
  |int b=>obtain⟨t,rfl⟩:=rx;exact SeqAt.EqAt.str_int a t' b t
  |str b=>obtain⟨t,rfl⟩:=rx;exact SeqAt.EqAt.str_str a t' b t
  |_=>exact absurd (show ao=ak from fx) oh
 |_=>exact absurd (show ao=ak from fy) oh
noncomputable def eqU(x:V)(u:aq):Bool:=match u with
 |.none=>eqV .non x
 |.bool b=>eqV (.bl b) x
 |.int i _=>eqV (.int i) x
 |.str z _=>eqV (.str z) x
 |_=>ao
theorem aoB(r:RelV y u)(f:uF y=ak):eqU x u=eqV y x:=by
 cases y with
 |non=>cases r;rfl
 |bl b=>cases r;rfl
 |int i=>obtain⟨t,rfl⟩:=r;rfl
 |str z=>obtain⟨t,rfl⟩:=r;rfl
 |_=>exact absurd (show ao=ak from f) oh
theorem a0C{x:V}:∀{xs:List V}{us:List aq},Vals xs us->xs.all uF=ak->us.any (eqU x)=xs.any λy=>eqV y x
 |_,_,.nil,_=>rfl
 |y::xs,u::us,.cons r t,f=>by
  rw[yt,bx]at f;rw[a0v,a0v,aoB r f.1,a0C t f.2]
theorem v8{A:jr}{s:dh}{x:V}{v:aq}(rx:RelV x v)(fx:uF x=ak):∀{xs:List V}{us:List aq},Vals xs us->xs.all uF=ak->∀u∈us,SeqAt.EqAt A s u v (eqU x u)
 |_,_,.nil,_=>λu hu=>by cases hu
 |y::xs,u::us,.cons r t,f=>λu' hu=>by
  rw[yt,bx]at f;rcases je.mp hu with rfl|hu
  .rw[aoB r f.1];exact a2B r rx f.1 fx
  .exact v8 rx fx t f.2 u' hu
noncomputable def inV(x:V)(xs:List V):Bool:=xs.any λy=>eqV y x
noncomputable def rIn(K:iw)(neg:Bool):R2:=λx y H Q=>∃p xs,y=.ref p/\(yJ K H p xs∨yK K H p xs)/\uF x=ak/\xs.all uF=ak/\Q (.bl (if neg then !inV x xs else inV x xs)) H
theorem am2:rA X (jd .In) (rIn X.K ao):=by
 intro pins s σ H x y v u Q I rx ry h;obtain⟨p,xs,rfl,hq,fx,fs,q⟩:=h;cases ry;rcases hq with hq|hq
 .obtain⟨its,r,pl,hz⟩:=I.list hq;refine SeqAt.in_listAt (eqU x) pl.isList (λw hw=>v8 rx fx r fs w (by simpa using hw)) ⟨.bl _,H,I,rfl,?_⟩;rw[show its.toArray.any (eqU x)=its.any (eqU x) by simp,a0C r fs];exact q
 .obtain⟨its,r,pl,hz⟩:=I.tuple hq;refine SeqAt.in_tupleAt (eqU x) pl (λw hw=>v8 rx fx r fs w (by simpa using hw)) ⟨.bl _,H,I,rfl,?_⟩;rw[show its.toArray.any (eqU x)=its.any (eqU x) by simp,a0C r fs];exact q
theorem abN:rA X (jd .NotIn) (rIn X.K ak):=by
 intro pins s σ H x y v u Q I rx ry h;obtain⟨p,xs,rfl,hq,fx,fs,q⟩:=h;cases ry;rcases hq with hq|hq
 .obtain⟨its,r,pl,hz⟩:=I.list hq;refine SeqAt.notIn_listAt (eqU x) pl.isList (λw hw=>v8 rx fx r fs w (by simpa using hw)) ⟨.bl _,H,I,rfl,?_⟩;rw[show its.toArray.any (eqU x)=its.any (eqU x) by simp,a0C r fs];exact q
 .obtain⟨its,r,pl,hz⟩:=I.tuple hq;refine SeqAt.notIn_tupleAt (eqU x) pl (λw hw=>v8 rx fx r fs w (by simpa using hw)) ⟨.bl _,H,I,rfl,?_⟩;rw[show its.toArray.any (eqU x)=its.any (eqU x) by simp,a0C r fs];exact q
theorem abO:uX X (.builtin "len") (λxs H Q=>∃p ys,xs=[.ref p]/\(yJ X.K H p ys∨yK X.K H p ys)/\Q (.int ys.length) H):=by
 intro pins s σ H xs us Q I r h;obtain⟨p,ys,rfl,hq,q⟩:=h;obtain⟨u,rfl,rx⟩:=vals1 r;cases rx;have hn:=a66;rcases hq with hq|hq
 .obtain⟨its,r',pl,hz⟩:=I.list hq;have hlen:=r'.length;exact Calls.call_len_list pl.isList (by simp only[gk]<;>omega) ⟨.int ys.length,H,I.tok _,⟨s.toks+1,by rw[gk,hlen]⟩,q⟩
 .obtain⟨its,r',pl,hz⟩:=I.tuple hq;have hlen:=r'.length;exact len_tuple pl (by simp only[gk]<;>omega) ⟨.int ys.length,H,I.tok _,⟨s.toks+1,by rw[gk,hlen]⟩,q⟩
theorem abP:uX X (.builtin "len") (λxs H Q=>∃z,xs=[.str z]/\z.length<=cu/\Q (.int z.length) H):=by
 intro pins s σ H xs us Q I r h;obtain⟨z,rfl,hz,q⟩:=h;obtain⟨u,rfl,t,rfl⟩:=vals1 r;have hn:=a66;exact len_str (by omega) ⟨.int z.length,H,I.tok _,⟨_,rfl⟩,q⟩
theorem uX.or(h:uX X f r)(h':uX X f r'):uX X f (λxs H Q=>r xs H Q∨r' xs H Q):=by
 intro pins s σ H xs us Q I rs q;rcases q with q|q
 .exact h pins s σ H xs us Q I rs q
 .exact h' pins s σ H xs us Q I rs q
theorem abQ:uX X (.type "list") (λxs H Q=>∃p ys,xs=[.ref p]/\(yJ X.K H p ys∨yK X.K H p ys)/\∀l,H l=bh->Q (.ref l) (upd H l (.lst ys))):=by
 intro pins s σ H xs us Q I r h;obtain⟨p,ys,rfl,hq,q⟩:=h;obtain⟨u,rfl,rx⟩:=vals1 r;cases rx
 have fin:∀(its:List aq),Vals ys its->ys.length<=cu->∀(h':jj)(c':Nat),(∀b o',s.heap.get? b=aj o'->h'.get? b=aj o') ->
   h'.get? s.heap.objs.size=aj {cls:=.type "list",dict:=none,data:=.seq its.toArray c',slots:=#[]}->EP X pins σ Q (.ref s.heap.objs.size) {s with heap:=h' }:=λits r' hz h' c' kp e =>
  ⟨.ref s.heap.objs.size,_,I.laid (t':=s.toks) kp (dz _) (show dW X.prog X.w _ h' _ (.lst ys)from⟨hz,its,c',r',e⟩),rfl,q _ (I.hok.fresh (dz _))⟩
 rcases hq with hq|hq
 .obtain⟨its,r',pl,hz⟩:=I.list hq;have hlen:=r'.length;obtain⟨o,ho,hc,n,hd⟩:=pl.isList;exact call_list_seq p (.inl rfl) ho hc hd (λh' c' kp e=>fin its r' hz h' c' kp e) (by simp only[gk]<;>omega)
 .obtain⟨its,r',pl,hz⟩:=I.tuple hq;have hlen:=r'.length;obtain⟨o,ho,hc,n,hd⟩:=pl;exact call_list_seq p (.inr rfl) ho hc hd (λh' c' kp e=>fin its r' hz h' c' kp e) (by simp only[gk]<;>omega)
theorem a90:uX X (.type "tuple") (λxs H Q=>∃p ys,xs=[.ref p]/\((yJ X.K H p ys/\∀l,H l=bh->Q (.ref l) (upd H l (.tup ys)))∨(yK X.K H p ys/\Q (.ref p) H))):=by
 intro pins s σ H xs us Q I r h;obtain⟨p,ys,rfl,h⟩:=h;obtain⟨u,rfl,rx⟩:=vals1 r;cases rx;rcases h with⟨hq,q⟩|⟨hq,q⟩
 .obtain⟨its,r',pl,hz⟩:=I.list hq;have hlen:=r'.length;refine call_tuple_list pl.isList (λh' kp=>?_) (by simp only[gk]<;>omega);have I1:Inv X pins σ H {s with heap:=h' }:=I.kept (t':=s.toks) kp
  have I2:Inv X pins σ (upd H h'.objs.size (.tup ys)) {s with heap:=h'.push {cls:=.type "tuple",data:=.seq its.toArray}} :=
   I1.laid (t':=s.toks) (λb o e=>cg _ e) (dz _) (show dW X.prog X.w _ _ _ (.tup ys)from⟨hz,its,r',IsTup.new _ _⟩)
  exact⟨.ref h'.objs.size,_,I2,rfl,q _ (I1.hok.fresh (dz _))⟩
 .obtain⟨its,r',pl,hz⟩:=I.tuple hq;exact call_tuple_same pl ⟨.ref p,H,I,rfl,q⟩
def tyV(K:iw)(T:String)(x:V)(H:Hp):Prop:=match x with
 |.str _=>T="str"
 |.int _=>T="int"
 |.ref p=>(T="list"/\∃xs,yJ K H p xs)∨(T="tuple"/\∃o,K.lookup p=aj o/\o.cls=.type "tuple"/\o.dict=bh) ∨
   (T="dict"/\((∃kvs,H p=aj (.dK kvs))∨∃kvs,H p=aj (.dT kvs)))∨(T="set"/\∃S n,H p=aj (.set S n))
 |_=>False
theorem aoC{T:String}(I:Inv X pins σ H s)(r:RelV x v)(ty:tyV X.K T x H) :
  s.TypeIs v T/\∀a,v=.ref a->∃ob,s.heap.get? a=aj ob/\ob.dict=bh:=by
 cases x with
 |str z =>
  obtain⟨t,rfl⟩:=r;cases(show T="str" from ty);exact⟨typeIs_str s z t,λ_ e=>nomatch e⟩
 |int i =>
  obtain⟨t,rfl⟩:=r;cases(show T="int" from ty);exact⟨typeIs_int s i t,λ_ e=>nomatch e⟩
 |ref p =>
  cases r;rcases ty with⟨rfl,xs,hq⟩|⟨rfl,o,hk,hc,hd⟩|⟨rfl,hk⟩|⟨rfl,S,n,hk⟩
  .obtain⟨its,_,pl,_⟩:=I.list hq;refine⟨pl.isList.typeIs,λa e=>?_⟩;cases e;obtain⟨o,n,e,c,hd,_⟩:=pl;exact⟨o,e,hd⟩
  .refine⟨⟨o,I.kIn p o hk,hc⟩,λa e=>?_⟩;cases e;exact⟨o,I.kIn _ o hk,hd⟩
  .have z:∃o,s.heap.get? p=aj o/\o.ExactDict:=by
    rcases hk with⟨kvs,hk⟩|⟨kvs,hk⟩
    .obtain⟨_,_,_,_,o,_,_,e,ex,_⟩:=I.hok p _ hk;exact⟨o,e,ex⟩
    .obtain⟨_,_,_,_,o,_,_,e,ex,_⟩:=I.hok p _ hk;exact⟨o,e,ex⟩
   obtain⟨o,e,ex⟩:=z;refine⟨⟨o,e,ex.1⟩,λa e2=>?_⟩;cases e2;exact⟨o,e,ex.2.1⟩
  .obtain⟨o,_,_,_,e,ex,_⟩:=I.hok p _ hk;refine⟨⟨o,e,ex.1⟩,λa e2=>?_⟩;cases e2;exact⟨o,e,ex.2.1⟩
 |_=>exact False.elim ty
end
end
variable{its:List aq}{t':Nat}
section
noncomputable def MtM(X:Cx)(id:String)(r:V->List V->Hp->VK->Prop):Prop :=
 ∀(pins:List (bw×Obj))(s:dh)(σ:St)(H:Hp)(x:V)(xs:List V)(v:aq)(us:List aq)(Q:VK),Inv X pins σ H s->RelV x v->Vals xs us->r x xs H Q ->
  dg (fj X.prog X.w) X.A (call (.builtin id) (v::us)) (EP X pins σ Q) X.xe s
theorem Vals.one(h:Vals [x] us):∃u,us=[u]/\RelV x u:=by
 cases h with
 |cons r h=>cases h;exact⟨_,rfl,r⟩
theorem Vals.zero:∀{us:List aq},Vals [] us->us=[]
 |_,.nil=>rfl
theorem Vals.dropLast{us:List aq}(h:Vals xs us):Vals xs.dropLast us.dropLast:=by
 induction h with
 |nil=>exact .nil
 |cons r t ih =>
  cases t with
  |nil=>exact .nil
  |cons q t'=>exact .cons r ih
theorem Vals.eraseIdx:∀{xs:List V}{us:List aq}(i:Nat),Vals xs us->Vals (xs.eraseIdx i) (us.eraseIdx i)
 |_,_,_,.nil=>.nil
 |_,_,0,.cons _ t=>t
 |_,_,i+1,.cons r t=>.cons r (Vals.eraseIdx i t)
theorem ahC{α:Type}(l:List α):l.eraseIdx (l.length - 1)=l.dropLast:=by
 induction l with
 |nil=>rfl
 |cons a r ih =>
  cases r with
  |nil=>rfl
  |cons b r =>
   have e:(a::b::r).length - 1=((b::r).length - 1)+1:=by
    have h1:(a::b::r).length=r.length+2:=rfl;have h2:(b::r).length=r.length+1:=rfl;omega
   rw[e,List.eraseIdx_cons_succ,ih]
   all_goals rfl
section
variable{pins:List (bw×Obj)}{s:dh}{xs ys:List V}
theorem Inv.aB3{its':List aq}(I:Inv X pins σ H s)(hH:H l=aj (.lst xs))
  (e:s.heap.get? l=aj {cls:=.type "list",data:=.seq its.toArray n})(hf:f its.toArray=its'.toArray)(hv:Vals ys its')(hz:ys.length<=cu) :
  Inv X pins σ (upd H l (.lst ys)) {s with heap:=s.heap.update l (Obj.mapSeq f),toks:=t' }:=by
 have q:=PySem.IsL.update e f;rw[hf]at q;refine I.write (x:=l) (e:=l) (by rw[hH];exact trivial) (.inl rfl) (λb' u hb hu=>(Heap.get?_update_other s.heap (Obj.mapSeq f) (Ne.symm hb)).trans hu) ⟨_,q⟩ ?_;exact⟨hz,its',_,hv,q⟩
theorem Inv.aGX(I:Inv X pins σ H s)(hv:Vals ys its)(hz:ys.length<=cu) :
  Inv X pins σ (upd H s.heap.objs.size (.lst ys)) {s with heap:=s.heap.push {cls:=.type "list",data:=.seq its.toArray},toks:=t' } :=
 I.laid (λ_ _ q=>cg _ q) (dz _) ⟨hz,its,0,hv,ig _ rfl⟩
theorem Inv.fresh(I:Inv X pins σ H s):H s.heap.objs.size=bh:=I.hok.fresh (dz _)
theorem Inv.am3(I:Inv X pins σ H s)(hH:H l=aj (.lst xs)):xs.length<=cu/\∃(its:List aq)(n:Nat),Vals xs its/\xs.length=its.length/\s.heap.get? l=aj {cls:=.type "list",data:=.seq its.toArray n}:=by
 obtain⟨z,its,n,r,e⟩:=I.hok l _ hH;exact⟨z,its,n,r,r.length,e⟩
theorem aoD(h:n<=cu):Builtin.List.listTooLong n=ao:=by
 unfold Builtin.List.listTooLong;exact decide_eq_false (by omega)
end
section
noncomputable def auG:V->List V->Hp->VK->Prop:=λx vs H Q=>∃l xs y,x=.ref l/\vs=[y]/\H l=aj (.lst xs)/\xs.length<cu/\Q .non (upd H l (.lst (xs++[y])))
theorem a9Y:MtM X "list.append" auG:=by
 intro pins s σ H x vs v us Q I rx rv h;obtain⟨l,xs,y,rfl,rfl,hH,hz,q⟩:=h;cases rx;obtain⟨u,rfl,ru⟩:=rv.one;obtain⟨z,its,n,r,hl,e⟩:=I.am3 hH;refine call_meets F.slot_list_append ⟨_,e,rfl⟩ F.entry_list_append (F.args_list_append_2 _ _) (PySem.list_append l its.toArray n u (by rw[gk];omega)) ⟨e,?_⟩;refine⟨.non,_,I.aB3 (its':=its++[u]) hH e (by simp) (r.append (.cons ru .nil)) ?_,rfl,q⟩;rw[uc,List.length_singleton];omega
noncomputable def auH:V->List V->Hp->VK->Prop:=λx vs H Q=>∃l b xs zs,x=.ref l/\vs=[.ref b]/\H l=aj (.lst xs)/\H b=aj (.lst zs)/\xs.length+zs.length<=cu/\Q .non (upd H l (.lst (xs++zs)))
theorem aFG:MtM X "list.extend" auH:=by
 intro pins s σ H x vs v us Q I rx rv h;obtain⟨l,b,xs,zs,rfl,rfl,hH,hB,hz,q⟩:=h;cases rx;obtain⟨u,rfl,ru⟩:=rv.one;cases ru;obtain⟨z,its,n,r,hl,e⟩:=I.am3 hH;obtain⟨z2,its2,n2,r2,hl2,e2⟩:=I.am3 hB;have hsz:its.toArray.size+its2.toArray.size<=cu:=by rw[gk,gk];omega
 have aGY:¬ (!its.toArray.isEmpty&&Builtin.List.listTooLong (its.toArray.size+its2.toArray.size))=ak:=by
  rw[aoD hsz,a2y];exact oh
 refine call_meets F.slot_list_extend ⟨_,e,rfl⟩ F.entry_list_extend (F.args_list_extend_2 _ _)
  (AutoSeq1.list_extend_list_list_0 l its.toArray n b its2.toArray n2 aGY (by rw[gk];omega) (by omega)) ⟨e,e2,?_⟩
 refine⟨.non,_,I.aB3 (its':=its++its2) hH e (by simp) (r.append r2) ?_,rfl,q⟩;rw[uc];omega
noncomputable def aLX:V->List V->Hp->VK->Prop:=λx vs H Q=>∃l xs y,x=.ref l/\vs=[]/\H l=aj (.lst xs)/\xs[xs.length - 1]?=aj y/\Q y (upd H l (.lst xs.dropLast))
theorem aB4:MtM X "list.pop" aLX:=by
 intro pins s σ H x vs v us Q I rx rv h;obtain⟨l,xs,y,rfl,rfl,hH,hy,q⟩:=h;cases rx;have hus:=rv.zero;subst hus;obtain⟨z,its,n,r,hl,e⟩:=I.am3 hH;obtain⟨u,hu,ru⟩:=r.get hy
 have hy':its.toArray[its.toArray.size - 1]?=aj u:=by
  show its.toArray[its.length - 1]?=aj u;rw[←a0k,←hl];exact hu
 refine call_meets F.slot_list_pop ⟨_,e,rfl⟩ F.entry_list_pop (F.args_list_pop_1 _) (MeetsSeq.list_pop_last l its.toArray n u hy' (by rw[gk];omega)) ⟨e,?_⟩;refine⟨y,_,I.aB3 (its':=its.dropLast) hH e ?_ r.dropLast ?_,ru,q⟩
 .show its.toArray.eraseIdxIfInBounds (its.toArray.size - 1)=its.dropLast.toArray;rw[gk,List.eraseIdxIfInBounds_toArray,ahC]
 .rw[List.length_dropLast];omega
noncomputable def aLY:R2:=λx y H Q=>∃l b xs zs,x=.ref l/\y=.ref b/\H l=aj (.lst xs)/\H b=aj (.lst zs)/\xs.length+zs.length<=cu/\∀p,H p=bh->Q (.ref p) (upd H p (.lst (xs++zs)))
theorem aB5:rA X (wu .Add) aLY:=by
 intro pins s σ H x y v u Q I rx ry h;obtain⟨l,b,xs,zs,rfl,rfl,hH,hB,hz,q⟩:=h;cases rx;cases ry;obtain⟨z,its,n,r,hl,e⟩:=I.am3 hH;obtain⟨z2,its2,n2,r2,hl2,e2⟩:=I.am3 hB;refine PySem.P.add_list e e2 ?_ (by rw[gk,gk];omega);have ea:its.toArray++its2.toArray=(its++its2).toArray:=by simp
 rw[ea];exact⟨.ref _,_,I.aGX (t':=s.toks) (r.append r2) (by rw[uc];omega),rfl,q _ I.fresh⟩
end
section
end
section
end
end
end L2
namespace Att
open PySem PySem.W PySem.Calls PyProof.Rows
theorem a4Q{h:jj}:∀(ns:List Int)(vs:List aq),WellAll P h vs (ns.map WData.int)->a0w vs ns:=by
 intro ns
 induction ns with
 |nil =>
  intro vs w;rw[a2m]at w;cases w;exact .nil
 |cons n ns ih =>
  intro vs w;rw[iy]at w;cases w with
  |cons a b =>
   cases a;exact .cons _ _ (ih _ b)
variable{l:OpenLaw}{n:Nat}
theorem am4(hn:l.most=aj n){h:jj} 
  (hpre:l.row.toRowW.claim.pre args=ak)(hwl:WellAll P h vals args) :
  ∃a vs ns,vals=[aq.ref a]/\args=[WData.list (ns.map WData.int)]/\h.get? a=aj {cls:=.type "list",data:=.seq vs.toArray}/\a0w vs ns/\ns.length<=n:=by
 have hsh:WShape.hasAll [] args [.list .int]=ak:=(pre_splitW hpre).1;have hc:l.pre.holds [] {args:=args}=ak:=(pre_splitW hpre).2;obtain⟨d,r,rfl,h1,h2⟩:=hasAllW_cons hsh;obtain rfl:=hasAllW_nil h2;obtain⟨xs,rfl,h3⟩:=hasW_list h1;obtain⟨ns,rfl⟩:=items_int h3
 have hlen:ns.length<=n:=by
  unfold OpenLaw.pre at hc
  have h4:(WTm.not (.lt (.lit (.int (n:Int))) (.len (.arg 0)))).holds [] {args:=[.list (ns.map .int)]}=ak:=by
   have h4:=(holds_andW hc).1;rw[hn]at h4;exact h4
  have h5:=condW_of h4 (w_not (w_lt w_lit (w_len_list (w_arg rfl))));rw[dj]at h5;refine Nat.le_of_not_lt λq=>?_;have q':(n:Int)<((ns.length:Nat):Int):=by omega
  first
   |(rw[decide_eq_true q']at h5;exact absurd h5 (by decide))
   |(simp at h5;omega)
 cases hwl with
 |cons w1 w2 =>
  cases w2;cases w1 with
  |list ho hall=>exact⟨_,_,ns,rfl,rfl,ho,a4Q ns _ hall,hlen⟩
theorem am5(l:OpenLaw)(args:List WData):l.row.toRowW.claim.post args (.bool ak) args=ak :=
 postW_of (r:=l.row.toRowW) (X:=(ak==ak))
  (show WShape.has [] (.bool ak) .bool=ak by first|rfl|decide|simp[WShape.has,WShape.arms,WShape.armsAll])
  (show(WTm.eq .res (.lit (.bool ak))).value [] {args:=args,res:=some (.bool ak),after:=args}=aj (.bool (ak==ak))from w_eq_bool (w_res rfl) w_lit) rfl
theorem adU{d:DefRec}
  (hn:l.most=aj n)(hdf:d.params.defaults=[])
  (call:∀(w:jf)(s₀ s₁:dh)(mg mb:Str->Option aq)(fa:bw)(o:Obj)(pm cd doc:aq)(a:bw)(vs:List aq)(ns:List Int),
   Ground q loose [] XP w s₀ mg mb s₁.heap->YP w s₁.heap ->
   s₁.heap.get? fa=aj o->o.data=.func (docDef d.name d.params d.body d.scope pm cd doc)->s₁.heap.CodeRec cd d.name->mg d.name=aj (.ref fa) ->
   s₁.heap.get? a=aj {cls:=.type "list",data:=.seq vs.toArray}->a0w vs ns->ns.length<=n->s₁.gens=#[] ->
   a0u (fj l.prog w) callerA (.call (.ref fa) ⟨[.ref a],[]⟩) (λr s'=>r=.ok (.ret (.bool ak))/\OldK s₁.heap s'.heap/\s'.os=s₁.os/\AllBare s'.gens) s₁) :
  WalkO q loose XP YP l.row.toRowW d [] (λf vs=>PySem.call f vs):=by
 intro w s₀ s₁ mg mb G Y fa o pm cd doc dV kV ho hd hcd hD hmg hg args vals as hpre hlay hrd hwl hlo;obtain rfl:dV=.none:=Dflts.none hD hdf;obtain rfl:kV=.none:=Dflts.noKw hD;obtain⟨a,vs,ns,rfl,rfl,hobj,hints,hlen⟩:=am4 hn hpre hwl;refine enter_call (codeAny_mono (call w s₀ s₁ mg mb fa o pm cd doc a vs ns G Y ho (fd_plain hd) hcd hmg hobj hints hlen hg) λr s' hq=>?_);obtain⟨rfl,h2,h3,h4⟩:=hq;exact⟨.inl ⟨.bool ak,.bool ak,[],rfl,λ_=>rfl,.bool ak,am5 l _,λ_=>⟨a1r.nil,λ_ hm=>(nomatch hm)⟩⟩,h2,h3,h4⟩
section
noncomputable def ledger(h:jj)(L d:bw):List (bw×Obj):=(jw h.objs.size).filterMap λa=>if a=L∨a=d then bh else(h.get? a).map λo=>(a,o)
end
end Att
namespace L2
open PySem PySem.Spec PyProof.Rows
variable{mg:Str->Option aq}{a:bw}{x:Str}
section
theorem a9Z:∀{vs:List aq}{ns:List Int},a0w vs ns->Vals (ns.map V.int) vs
 |_,_,.nil=>.nil
 |_,_,.cons n t h=>.cons ⟨t,rfl⟩ (a9Z h)
def Only(H:Hp):Prop:=∀b,H b=bh∨∃o xs,H b=aj (.gF o (.lst xs))
set_option tactic.hygienic true in
theorem aoE{w:jf}{K:iw}{k:Nat}{s₁:dh}{vs:List aq}{ns:List Int}
  (KX:K.In s₁.heap)(hns:s₁.heap.Ns ju mg)(hb:s₁.heap.Ns builtinsNs mb)(hbb:∀x:Str,x≠"__name__"->mb x=ni x)(hlim:s₁.heap.NoLimit)(hg:s₁.gens=#[])
  (ha:s₁.heap.get? a=aj {cls:=.type "list",data:=.seq vs.toArray})(hi:a0w vs ns)(hl:ns.length<=cu)(hr:gG qt k callerA)
  (F:∀base:jj,K.In base->base.Ns ju mg->cC qt P w K mg base CX k fa fd [x] sp)(hbind:∀(s:dh)(u:aq),BindsTo s fd ⟨[u],[]⟩ [(x,u)])
  (hsp:∀H:Hp,Only H->yJ K H a (ns.map V.int)->sp [.ref a] H (λv _=>v=.bl ak) λ_ _ _=>False)
  (hCX:∀H e s',CX [] H s₁ (λ_ _ _=>False) e s'->False) :
  a0u (fj P w) callerA (.call (.ref fa) ⟨[.ref a],[]⟩) (λr s'=>r=.ok (.ret (.bool ak))/\OldK s₁.heap s'.heap/\s'.os=s₁.os/\AllBare s'.gens) s₁:=by
 have rv:=a9Z hi;have lenV:=hi.length
 have core:∀H:Hp,Only H->yJ K H a (ns.map V.int)->xQ P w H s₁.heap->(∀b,H b≠bh->b=a)->(H a≠bh->K.lookup a=bh) ->
   a0u (fj P w) callerA (.call (.ref fa) ⟨[.ref a],[]⟩) (λr s'=>r=.ok (.ret (.bool ak))/\OldK s₁.heap s'.heap/\s'.os=s₁.os/\AllBare s'.gens) s₁:=by
  intro H hO hS hok hA hK;have ajE:∀{b:bw}{o:Obj},s₁.heap.get? b=aj o->H b=bh->(abB s₁.heap H).get? b=aj o:=λe n=>anR e n
  have noA:∀{b:bw}{o:Obj}{es:Array yj}{ep:Nat},s₁.heap.get? b=aj o->o.data=.dict es ep->H b=bh:=λ{b o es ep} e d=>by
   cases q:H b with
   |none=>rfl
   |some u =>
    have e':b=a:=hA b (by rw[q];simp);subst e';rw[ha]at e;cases e;have d':Data.seq vs.toArray _=Data.dict es ep:=d;cases d'
  have nsK:∀{b:bw}{m:Str->Option aq},s₁.heap.Ns b m->(abB s₁.heap H).Ns b m:=λ{b m} ⟨o,es,ep,e,d,r⟩=>⟨o,es,ep,ajE e (noA e d),d,r⟩
  have hKb:K.In (abB s₁.heap H):=λb o e=>ajE (KX b o e) (by
   cases q:H b with
   |none=>rfl
   |some u =>
    have e':b=a:=hA b (by rw[q];simp);subst e';rw[hK (by rw[q];simp)]at e;cases e)
  have hM:Mod K mg (abB s₁.heap H):=⟨hKb,nsK hns,⟨mb,nsK hb,hbb⟩,let⟨mc,h1,h2⟩:=hlim;⟨mc,nsK h1,h2⟩⟩;have e0:a8W P w K mg (abB s₁.heap H) callerA [] s₁ H:=⟨rfl,hM,λb o e=>atG e,a1U (alS _ _),trivial,λb hb=>absurd (show b∈([]:List bw)from hb) (by simp),hok,.of_eq hg,.inl rfl⟩;refine codeAny_mono ((F _ hKb (nsK hns)).run callerA [] s₁ H ⟨[.ref a],[]⟩ [.ref a] [.ref a] _ _ hr e0 (hbind s₁ (.ref a)) (.cons rfl .nil) (hsp H hO hS)) λr s' h=>?_;cases r with
  |error e=>exact(hCX H e s' h).elim
  |ok fl =>
   cases fl with
   |next=>exact False.elim h
   |brk=>exact False.elim h
   |cont=>exact False.elim h
   |ret u =>
    obtain⟨v,H',os,bare,un,hok',r',q⟩:=h;have q':v=.bl ak:=q;subst q';obtain rfl:u=aq.bool ak:=r';refine⟨rfl,OldK.of_keep λb o e=>?_,os,bare⟩;cases q:H b with
    |none=>exact un.keep b o e q (by intro z;exact absurd (show b∈([]:List bw)from z) (by simp)) (by simp)
    |some u =>
     rcases hO b with z|⟨ob,xs,z⟩
     .rw[q]at z;cases z
     .have z2:=un.jK b ob _ z;obtain⟨e1,_⟩:=hok b _ z;obtain⟨e2,_⟩:=hok' b _ z2;rw[e]at e1;cases e1;exact e2
 cases hk:K.lookup a with
 |some o =>
  have e:=KX a o hk;rw[ha]at e;cases e;refine core (λ_=>bh) (λ_=>.inl rfl) (.inr ⟨_,vs.toArray,_,hk,rfl,rfl,rfl,by rw[gk,lenV];exact hl,by simpa using rv⟩) (λb u z=>by have z':(bh:Option HO)=aj u:=z;cases z') (λb z=>absurd rfl z) λz=>absurd rfl z
 |none =>
  refine core (λb=>if b=a then aj (.gF {cls:=.type "list",data:=.seq vs.toArray} (.lst (ns.map V.int)))else bh) (λb=>?_) (.inl (.inr ⟨{cls:=.type "list",data:=.seq vs.toArray},if_pos rfl⟩)) (λb u z=>?_) (λb z=>?_) λ_=>hk
  .by_cases hb:b=a
   .exact .inr ⟨_,_,if_pos hb⟩
   .exact .inl (if_neg hb)
  .by_cases hb:b=a
   .have z':=(if_pos hb).symm.trans z;cases z';subst hb;exact⟨ha,by rw[dj];exact hl,vs,_,rv,ha⟩
   .have z':=(if_neg hb).symm.trans z;cases z'
  .by_cases hb:b=a
   .exact hb
   .exact absurd (if_neg hb) z
end
variable{n:Nat}
section
theorem auI{l:PySem.W.OpenLaw}{k:Nat}{q:jo}{loose:List Str}{XP:(Str->Option aq)->jj->Prop}{YP:jf->jj->Prop}{d:DefRec}{K:Params->iw}{CX:jf->CXT}{sp:jf->Sp}
  (hn:l.most=aj n)(hn2:n<=cu)(hdf:d.params.defaults=[])(hr:gG qt k callerA)
  (hY:∀(w:jf)(h:jj),YP w h->(K w.params).In h)
  (F:∀(w:jf)(mg:Str->Option aq)(fa:bw)(h:jj),(K w.params).In h->h.Ns ju mg->mg d.name=aj (.ref fa) ->
   ∃fd:kh,(∀(s:dh)(u:aq),BindsTo s fd ⟨[u],[]⟩ [(x,u)]) /\
    ∀base:jj,(K w.params).In base->base.Ns ju mg->cC qt l.prog w (K w.params) mg base (CX w) k fa fd [x] (sp w))
  (hsp:∀(w:jf)(H:Hp)(a:bw)(ns:List Int),ns.length<=n->Only H->yJ (K w.params) H a (ns.map V.int)->sp w [.ref a] H (λv _=>v=.bl ak) λ_ _ _=>False)
  (hCX:∀(w:jf)(H:Hp)(s:dh)(e:aq)(s':dh),CX w [] H s (λ_ _ _=>False) e s'->False) :
  PySem.W.WalkO q loose XP YP l.row.toRowW d [] (λf vs=>PySem.call f vs):=by
 refine Att.adU hn hdf λw s₀ s₁ mg mb fa o pm cd doc a vs ns G Y ho hd hcd hmg hobj hints hlen hg=>?_;have KX:=hY w _ Y;obtain⟨fd,hb,hF⟩:=F w mg fa _ KX G.T.g hmg;exact aoE KX G.T.g G.T.b G.T.builtins G.T.nolimit hg hobj hints (qj hlen hn2) hr hF hb (λH hO hS=>hsp w H a ns hlen hO hS) λH e s'=>hCX w H s₁ e s'
end
variable{st:qp}{pos:Pos}
section
noncomputable def inClass(s:qp)(j:Nat):qp:=match s with
 |.ClassDef _ _ _ body _ _ _ _ _ _ _=>body.getD j (.Pass ⟨0,0,0,0⟩)
 |_=>.Pass ⟨0,0,0,0⟩
noncomputable def cZ(s:qp):Arguments:=match s with
 |.FunctionDef _ a _ _ _ _ _ _ _ _=>a
 |_=>{posonlyargs:=[],args:=[],vararg:=none,kwonlyargs:=[],kw_defaults:=[],kwarg:=none,defaults:=[]}
noncomputable def bT(s:qp):List qp:=match s with
 |.FunctionDef _ _ b _ _ _ _ _ _ _=>b
 |_=>[]
noncomputable def aV(s:qp):yp:=match s with
 |.FunctionDef _ _ _ _ _ _ sc _ _ _=>sc
 |_=>{kind:=.function,names:=[],isGenerator:=false,isCoroutine:=false}
noncomputable abbrev CX0:CXT:=λ_ _ _ _ _ _=>False
structure Fun(K:iw)(x qual:Str)(st:qp)(f:bw)(fd:kh):Prop where
 ex:∃(oc:aq)(od:Option bw)(dV kV doc pm:aq)(an:Option bw)(cdv ct:aq)(osl:Array (Option aq)),
  fd=ql x qual (cZ st) (bT st) (aV st) dV kV doc pm an cdv ct/\K.lookup f=aj ⟨oc,od,.func fd,osl⟩/\a1m K cdv qual=ak
 kp:uf K (.ref f)=ak
variable{qual:Str}{f:bw}
section
variable{P:jo}{w:jf}{K:iw}{mg:Str->Option aq}{base:jj}
theorem Fun.ok{fd:kh}{N ps:List Str}{k:Nat}{sp:Sp}(F:Fun K x qual st f fd)(S:bA N ps (aV st))(len:∀vs H Q E,sp vs H Q E->vs.length=ps.length)
  (hbody:∀(cdv:aq)(A:jr)(outer:List Env)(s:dh)(H:Hp)(vs:List V)(Q:VK)(E:XK),gG qt k (A.deeper (envOfC qual (aV st) s.heap.objs.size f cdv))->sp vs H Q E ->
   ∃t,PSs (pG qt CX0 P w K mg base N qual (aV st) f cdv A outer s H E).nox (bT st) t/\t {nx:=λ_ H'=>Q .non H',rt:=Q} (start N vs) H):cC qt P w K mg base CX0 (k+1) f fd ps sp:=by
 obtain⟨oc,od,dV,kV,doc,pm,an,cdv,ct,osl,rfl,lk,hcd⟩:=F.ex;refine ayH lk hcd S len λA outer s H vs Q E hr hsp=>?_;obtain⟨t,h,q⟩:=hbody cdv A outer s H vs Q E hr hsp;exact⟨t,h.nox,q⟩
theorem ahD{oc:aq}{od an:Option bw}{osl:Array (Option aq)}{dV kV doc pm cdv ct:aq}(l:K.lookup f=aj ⟨oc,od,.func (ql x qual (cZ st) (bT st) (aV st) dV kV doc pm an cdv ct),osl⟩)
  (c:a1m K cdv qual=ak)(k:uf K (.ref f)=ak):Fun K x qual st f (ql x qual (cZ st) (bT st) (aV st) dV kV doc pm an cdv ct):=⟨⟨oc,od,dV,kV,doc,pm,an,cdv,ct,osl,rfl,l,c⟩,k⟩
end
section
variable{X:Cx}
theorem pv(i:Nat)(hN:X.N[i]?=aj x:=by rfl)(hv:Vis X.env.scope x:=by first|exact Or.inl rfl|exact Or.inr (Or.inl rfl)|exact Or.inr (Or.inr rfl))(hd:(x==("__debug__":Str))=ao:=by decide)
  (hcd:(x==("__classdict__":Str))=ao:=by decide):PE X (.Name x pos) (aA2 i):=anS hN hv hd hcd
end
theorem am6{A B:Prop}[Decidable c](h1:c->A)(h2:¬ c->B):if c then A else B:=by
 by_cases h:c
 .rw[if_pos h];exact h1 h
 .rw[if_neg h];exact h2 h
def Same(H H':Hp):Prop:=∀b o,H b=aj o->H' b=aj o
theorem Same.refl(H:Hp):Same H H:=λ_ _ h=>h
theorem Same.trans(a:Same H H1)(b:Same H1 H2):Same H H2:=λc o h=>b c o (a c o h)
theorem Same.free(e:Same H H')(h:H' l=a1d):H l=a1d:=by
 cases q:H l with
 |none=>rfl
 |some o =>
  rw[e l o q]at h;cases h
theorem Same.seq{K:iw}(e:Same H H')(h:yJ K H a xs):yJ K H' a xs:=by
 rcases h with(h|⟨o,h⟩)|h
 .exact .inl (.inl (e _ _ h))
 .exact .inl (.inr ⟨o,e _ _ h⟩)
 .exact .inr h
section
end
section
variable[DecidableEq κ]
end
end
variable{b:bw}
section
noncomputable abbrev NK:=List Int×Int
def a6C(h:jj)(k:NK)(a:bw):Prop:=∃o b t n,h.get? a=aj o/\o.cls=.type "tuple"/\o.data=.seq #[.ref b,.int k.2 t] n/\∀(P:jo)(w:jf),IsTupleKey (aF P w) h (k.1.map Sum.inl) b
theorem ajF{x y:List Int}(h:x.map (Sum.inl:Int->Key)=y.map Sum.inl):x=y:=by
 induction x generalizing y with
 |nil=>cases y with
  |nil=>rfl
  |cons _ _=>cases h
 |cons a r ih=>cases y with
  |nil=>cases h
  |cons b q =>
   rw[iy,iy]at h;injection h with h1 h2;injection h1 with h1;rw[h1,ih h2]
variable{x:NK}
theorem a6D{P:jo}{w:jf}{h:jj}(hx:a6C h x a)(hy:a6C h y a):x=y:=by
 obtain⟨o,b,t,n,e1,e2,e3,e4⟩:=hx;obtain⟨o',b',t',n',g1,g2,g3,g4⟩:=hy;rw[e1]at g1;cases g1;rw[e3]at g3;simp only[Data.seq.injEq,Array.mk.injEq,List.cons.injEq,aq.ref.injEq,aq.int.injEq,and_true]at g3;obtain⟨⟨rfl,h2,_⟩,_⟩:=g3;have:=ajF ((e4 P w).inj (g4 P w));exact Prod.ext this h2
theorem aoF{P:jo}{w:jf}{h:jj}{k:NK}{o:Obj}{es ep}(x:a6C h k a)(ho:h.get? d=aj o)(hd:o.data=.dict es ep)(hs:jz d h h'):a6C h' k a:=by
 obtain⟨o',b,t,n,e1,e2,e3,e4⟩:=x
 have hne:a≠d:=by
  rintro rfl;rw[e1]at ho;cases ho;rw[hd]at e3;exact nomatch e3
 exact⟨o',b,t,n,(hs.2 a hne).trans e1,e2,e3,λP w=>(e4 P w).keeps ho hd hs⟩
section
variable{prog:jo}{w:jf}{A:jr}{s:dh}
noncomputable def ahE(prog:jo)(w:jf)(k:NK):Int:=reduceHash (Builtin.Tuple.tupleHashOf [tupleKeyHash (aF prog w) (k.1.map Sum.inl),(aF prog w).hash (.inl k.2)])
theorem ajG{k:NK}(x:a6C s.heap k a):s.TypeIs (.ref a) "tuple":=let⟨o,_,_,_,ho,hc,_⟩:=x;⟨o,ho,hc⟩
theorem am7{k:NK}(hu:A.units+8<jl)(hk:a6C s.heap k a)(h:Q (ahE prog w k) {s with toks:=s.toks+(k.1.length+1+1+1)}) :
  dg (fj prog w) A (pyHash (.ref a)) Q E s:=by
 have hT:=ajG hk;obtain⟨o,b,t,n,ho,hc,hd,hi⟩:=hk;unfold pyHash
 first|unfold pyHashByItsType|skip
 first|refine au (wpAny_cRoomFor_or (.inr (by omega)) ?_)|skip
 refine au (wpAny_specialOf hT PySem.F.slot_tuple_hash.lookup ?_);show dg _ _ (if(aj (aq.builtin "tuple.__hash__")==aj aq.none)=ak then _ else _) Q E s;rw[if_neg (by rw[beq_builtin_none];exact oh)];refine au (wpAny_specialOf hT PySem.F.slot_tuple_hash.lookup ?_);show dg _ _ (callSpecialIfBoundUnlessNone? (.ref a) "__hash__" _ >>= _) Q E s;refine au (wpAny_callSpecialIfBoundUnlessNone?_slot hT PySem.F.slot_tuple_hash (wj PySem.F.slot_tuple_hash hT PySem.F.entry_tuple_hash ?_ (PySem.F.args_tuple_hash_1 _)));show dg _ _ (Builtin.Tuple.tupleItemsOf (.ref a) >>= _) _ _ s;refine au (wpAny_tupleItemsOf ho hd ?_);refine au ?_;rw[←Array.forIn_toList];have hl:(k.1.map (Sum.inl:Int->Key)).length=k.1.length:=dj ..
 refine wpAny_forIn_list _
  (λrest (acc:Array Int) s'=>(rest=[aq.ref b,.int k.2 t]/\acc=#[]/\s'=s)∨(rest=[aq.int k.2 t]/\acc=#[tupleKeyHash (aF prog w) (k.1.map Sum.inl)]/\s'={s with toks:=s.toks+(k.1.length+1)})∨(rest=[]/\acc=#[tupleKeyHash (aF prog w) (k.1.map Sum.inl),(aF prog w).hash (.inl k.2)]/\s'={s with toks:=s.toks+(k.1.length+1+1)}))
  _ ?_ ?_ _ _ (.inl ⟨rfl,rfl,rfl⟩)
 .rintro x rest acc s' (⟨hr,rfl,rfl⟩|⟨hr,rfl,rfl⟩|⟨hr,_⟩)
  .injection hr with h1 h2;subst h1 h2;refine au (wpAny_pyHash_tuple (knd:=aF prog w) (by show A.units+1<jl;omega) (hi prog w) ?_);rw[hl]
   first
    |exact cj (.inr (.inl ⟨rfl,rfl,rfl⟩))
    |exact au (cj (cj (.inr (.inl ⟨rfl,rfl,rfl⟩))))
  .injection hr with h1 h2;subst h1 h2;refine au ((aF prog w).pyHash (a3R prog w k.2 t) ?_)
   first
    |exact cj (.inr (.inr ⟨rfl,rfl,rfl⟩))
    |exact au (cj (cj (.inr (.inr ⟨rfl,rfl,rfl⟩))))
  .cases hr
 .rintro acc s' (⟨hr,_⟩|⟨hr,_⟩|⟨_,rfl,rfl⟩)
  .cases hr
  .cases hr
  .show dg _ _ (retInt (Builtin.Tuple.tupleHashOf [tupleKeyHash (aF prog w) (k.1.map Sum.inl),(aF prog w).hash (.inl k.2)])) _ _ _;refine wpAny_ret_mkInt ?_;show dg _ _ (if(decide (-(2:Int)^63<=Builtin.Tuple.tupleHashOf [tupleKeyHash (aF prog w) (k.1.map Sum.inl),(aF prog w).hash (.inl k.2)])&&decide (Builtin.Tuple.tupleHashOf [tupleKeyHash (aF prog w) (k.1.map Sum.inl),(aF prog w).hash (.inl k.2)]<2^63))=ak then _ else _) Q E _;unfold ahE reduceHash at h;by_cases hr:(decide (-(2:Int)^63<=Builtin.Tuple.tupleHashOf [tupleKeyHash (aF prog w) (k.1.map Sum.inl),(aF prog w).hash (.inl k.2)])&&decide (Builtin.Tuple.tupleHashOf [tupleKeyHash (aF prog w) (k.1.map Sum.inl),(aF prog w).hash (.inl k.2)]<2^63))=ak
   .rw[if_pos hr];rw[if_pos hr]at h;exact cj (by simpa[Nat.add_assoc]using h)
   .rw[if_neg hr];rw[if_neg hr]at h;exact au (zc (cj (by simpa[Nat.add_assoc]using h)))
theorem auJ(P:jo)(w0:jf)(hu:A.units+8<jl)(hx:a6C s.heap x a)(hy:a6C s.heap y b):SeqAt.EqAt A s (.ref a) (.ref b) (decide (x=y)):=by
 by_cases hab:a=b
 .subst hab;have e:x=y:=a6D (P:=P) (w:=w0) hx hy;subst e;rw[decide_eq_true rfl];exact SeqAt.EqAt.same _
 .obtain⟨o,b1,t,n,e1,e2,e3,e4⟩:=hx;obtain⟨o',b2,t',n',g1,g2,g3,g4⟩:=hy;refine SeqAt.EqAt.of_refs hab ?_
  have z:=SeqAt.RcAt.tuples (A:=A) (s:=s) (e:=λj=>if j=0 then decide (x.1=y.1)else decide (x.2=y.2)) (show s.heap.IsTuple a #[.ref b1,.int x.2 t]from⟨o,e1,e2,n,e3⟩) (show s.heap.IsTuple b #[.ref b2,.int y.2 t']from⟨o',g1,g2,n',g3⟩) (by omega) (λj h1 h2=>by
   match j,h1,h2 with
   |0,_,_ =>
    rw[if_pos rfl];intro prog' w' E' Q' hq
    have e:decide (x.1.map (Sum.inl:Int->Key)=y.1.map Sum.inl)=decide (x.1=y.1):=by
     rw[decide_eq_decide];exact⟨ajF,λz=>by rw[z]⟩
    exact wpAny_eqBool_tuple (knd:=aF prog' w') (by show A.units+1<jl;omega) (e4 prog' w') (g4 prog' w') (by rw[e];exact hq)
   |1,_,_ =>
    rw[if_neg (by decide)];intro prog' w' E' Q' hq
    exact wpAny_eqBool_int (by
     have e:(x.2==y.2)=decide (x.2=y.2):=rfl
     first
      |exact hq
      |(rw[e];exact hq))
   |j+2,h1,_=>exact absurd h1 (by simp))
  have e:((jw (min (#[aq.ref b1,.int x.2 t]:Array aq).size (#[aq.ref b2,.int y.2 t']:Array aq).size)).all (λj=>if j=0 then decide (x.1=y.1)else decide (x.2=y.2))&&(#[aq.ref b1,.int x.2 t]:Array aq).size==(#[aq.ref b2,.int y.2 t']:Array aq).size)=decide (x=y):=by
   show((jw 2).all _&&ak)=_;rw[show jw 2=[0,1]from rfl];simp only[yt,List.all_nil,Bool.and_true,if_true,Nat.one_ne_zero,if_false];rw[a2n,bx,decide_eq_true_eq,decide_eq_true_eq,decide_eq_true_eq];exact⟨λz=>Prod.ext z.1 z.2,λz=>by rw[z];exact⟨rfl,rfl⟩⟩
  rw[e]at z;exact z
theorem ahF{m:Nat}{ks:List Key}(hk:IsTupleKey (aF prog w) s.heap ks a)(h:Q ak s):dg (fj prog w) A (eqIsQuiet (m+1) (.ref a)) Q E s:=by
 have hT:=hk.typeIs;obtain⟨o,items,n,ho,_,hd,hi⟩:=hk;unfold eqIsQuiet;refine au (wpAny_specialOf hT PySem.F.slot_tuple_eq.lookup ?_);show dg _ _ (isInstance (.ref a) (.type "tuple") >>= _) _ _ s;refine au (wpAny_isInstance hT isSubtype_tuple_tuple ?_);simp only[a0x,ou,if_false];refine au (a1l ho hd ?_);refine au ?_;show dg _ _ (forIn items _ _) _ _ s;rw[←Array.forIn_toList];refine wpAny_forIn_list _ (λrest r s'=>r.1=bh/\s'=s/\∀v∈rest,carriedByValue v=ak) _ ?_ ?_ _ _ ⟨rfl,rfl,hi.byValue⟩
 .rintro v rest r s' ⟨hr,rfl,hall⟩;rw[eqIsQuiet_byValue _ (hall v su)];refine au (cj ?_);simp only[a0x,ou,if_false];exact cj ⟨rfl,rfl,λu hu'=>hall u (jq _ hu')⟩
 .rintro⟨r1,r2⟩ s' ⟨hr,rfl,_⟩;simp only at hr;subst hr;exact cj h
theorem aoG{k:NK}(hk:a6C s.heap k a)(h:Q ak s):dg (fj prog w) A (eqIsQuiet 8 (.ref a)) Q E s:=by
 have hT:=ajG hk;obtain⟨o,b,t,n,ho,_,hd,hi⟩:=hk;unfold eqIsQuiet;refine au (wpAny_specialOf hT PySem.F.slot_tuple_eq.lookup ?_);show dg _ _ (isInstance (.ref a) (.type "tuple") >>= _) _ _ s;refine au (wpAny_isInstance hT isSubtype_tuple_tuple ?_);simp only[a0x,ou,if_false];refine au (a1l ho hd ?_);refine au ?_;rw[←Array.forIn_toList];refine wpAny_forIn_list _ (λrest r s'=>r.1=bh/\s'=s/\∀v∈rest,v=.ref b∨v=.int k.2 t) _ ?_ ?_ _ _ ⟨rfl,rfl,λv hv=>by simpa using hv⟩
 .rintro v rest r s' ⟨hr,rfl,hall⟩;rcases hall v su with rfl|rfl
  .refine au (ahF (m:=6) (hi prog w) ?_);simp only[a0x,ou,if_false];exact cj ⟨rfl,rfl,λu hu'=>hall u (jq _ hu')⟩
  .rw[eqIsQuiet_byValue _ rfl];refine au (cj ?_);simp only[a0x,ou,if_false];exact cj ⟨rfl,rfl,λu hu'=>hall u (jq _ hu')⟩
 .rintro⟨r1,r2⟩ s' ⟨hr,rfl,_⟩;simp only at hr;subst hr;exact cj h
end
noncomputable def tD(prog:jo)(w:jf):HeapKind prog w NK where
 is:=a6C
 hash:=ahE prog w
 draws:=λk=>k.1.length+1+1+1
 room:=λA=>A.units+8<jl
 inj:=λhx hy=>a6D (P:=prog) (w:=w) hx hy
 keeps:=λx ho hd hs=>aoF (P:=prog) (w:=w) x ho hd hs
 pyHash:=λhu hk h=>am7 hu hk h
 eqBool:=λhu hx hy h=>auJ prog w hu hx hy prog w _ _ h
 quiet:=λhk h=>aoG hk h
end
variable{o:HO}{p:bw}{pins:List (bw×Obj)}{s:dh}{i:Nat}{v:V}
section
inductive D where
 |non|bl (b:Bool)|int (i:Int)|str (x:Str)|tup (xs:List D)|ref (a:bw)|ty (n:String)
noncomputable abbrev Fg:=iw
abbrev adV(H:Hp)(a:bw)(xs:List V):Prop:=H a=aj (.tup xs)
theorem am8(h:H a=aj (.tup xs)):adV H a xs:=h
mutual
inductive RD(K:Fg)(H:Hp):D->V->Prop where
 |non:RD K H .non .non
 |bl (b:Bool):RD K H (.bl b) (.bl b)
 |int (i:Int):RD K H (.int i) (.int i)
 |str (x:Str):RD K H (.str x) (.str x)
 |ty (n:String):RD K H (.ty n) (.ty n)
 |ref (a:bw):RD K H (.ref a) (.ref a)
 |tup {a:bw} {xs:List V} {ds:List D}:yK K H a xs->bW K H ds xs->adV H a xs->RD K H (.tup ds) (.ref a)
inductive bW(K:Fg)(H:Hp):List D->List V->Prop where
 |nil:bW K H [] []
 |cons {d:D} {v:V} {ds:List D} {vs:List V}:RD K H d v->bW K H ds vs->bW K H (d::ds) (v::vs)
end
structure Ts(H H':Hp):Prop where
 tups:∀a xs,H a=aj (.tup xs)->H' a=aj (.tup xs)
 jK:∀a o u,H a=aj (.gF o u)->H' a=aj (.gF o u)
theorem Ts.refl(H:Hp):Ts H H:=⟨λ_ _ h=>h,λ_ _ _ h=>h⟩
theorem Ts.trans(a:Ts H H1)(b:Ts H1 H2):Ts H H2:=⟨λc xs h=>b.tups c xs (a.tups c xs h),λc o u h=>b.jK c o u (a.jK c o u h)⟩
theorem Ts.same(s:Same H H'):Ts H H':=⟨λa _ h=>s a _ h,λa _ _ h=>s a _ h⟩
theorem Ts.rd(t:Ts H H')(h:Rd H a (.tup xs)):Rd H' a (.tup xs):=by
 rcases h with h|⟨o,h⟩
 .exact .inl (t.tups _ _ h)
 .exact .inr ⟨o,t.jK _ _ _ h⟩
theorem Ts.sqT{K:Fg}(t:Ts H H')(h:yK K H a xs):yK K H' a xs:=h.elim (λq=>.inl (t.rd q)) .inr
theorem adV.mono(t:Ts H H')(h:adV H a xs):adV H' a xs:=t.tups _ _ h
theorem bG(h:H p=bh):Same H (upd H p o):=λb u e=>by
 rw[aU (kZ e h)];exact e
mutual
theorem RD.mono{K:Fg}{H H':Hp}(t:Ts H H'):∀{d:D}{v:V},RD K H d v->RD K H' d v
 |_,_,.non=>.non
 |_,_,.bl b=>.bl b
 |_,_,.int i=>.int i
 |_,_,.str x=>.str x
 |_,_,.ty n=>.ty n
 |_,_,.ref a=>.ref a
 |_,_,.tup h r e=>.tup (t.sqT h) (bW.mono t r) (e.mono t)
theorem bW.mono{K:Fg}{H H':Hp}(t:Ts H H'):∀{ds:List D}{vs:List V},bW K H ds vs->bW K H' ds vs
 |_,_,.nil=>.nil
 |_,_,.cons h r=>.cons (RD.mono t h) (bW.mono t r)
end
section
variable{K:Fg}
theorem bW.length:∀{ds:List D}{vs:List V},bW K H ds vs->ds.length=vs.length
 |_,_,.nil=>rfl
 |_,_,.cons _ r=>congrArg (·+1) (bW.length r)
theorem bW.append:∀{ds:List D}{vs:List V}{es:List D}{ws:List V},bW K H ds vs->bW K H es ws->bW K H (ds++es) (vs++ws)
 |_,_,_,_,.nil,s=>s
 |_,_,_,_,.cons h r,s=>.cons h (bW.append r s)
theorem bW.get:∀{ds:List D}{vs:List V}{i:Nat}{d:D},bW K H ds vs->ds[i]?=aj d->∃v,vs[i]?=aj v/\RD K H d v
 |_,_,_,_,.nil,e=>by simp at e
 |_,_,0,_,.cons r _,e=>by simp at e;subst e;exact⟨_,rfl,r⟩
 |_,_,i+1,d,.cons _ t,e=>by
  obtain⟨u,h1,h2⟩:=bW.get (i:=i) (d:=d) t (by simpa using e);exact⟨u,by simpa using h1,h2⟩
theorem bW.am9:∀{ds:List D}{vs:List V}{i:Nat}{v:V},bW K H ds vs->vs[i]?=aj v->∃d,ds[i]?=aj d/\RD K H d v
 |_,_,_,_,.nil,e=>by simp at e
 |_,_,0,_,.cons r _,e=>by simp at e;subst e;exact⟨_,rfl,r⟩
 |_,_,i+1,d,.cons _ t,e=>by
  obtain⟨u,h1,h2⟩:=bW.am9 (i:=i) (v:=d) t (by simpa using e);exact⟨u,by simpa using h1,h2⟩
theorem bW.set{v:V}(r:RD K H d v):∀{ds:List D}{vs:List V}(i:Nat),bW K H ds vs->bW K H (ds.set i d) (vs.set i v)
 |_,_,_,.nil=>.nil
 |_,_,0,.cons _ t=>.cons r t
 |_,_,i+1,.cons q t=>.cons q (bW.set r i t)
theorem bW.drop:∀{ds:List D}{vs:List V}(n:Nat),bW K H ds vs->bW K H (ds.drop n) (vs.drop n)
 |_,_,0,r=>r
 |_,_,_+1,.nil=>.nil
 |_,_,n+1,.cons _ t=>bW.drop n t
theorem bW.take:∀{ds:List D}{vs:List V}(n:Nat),bW K H ds vs->bW K H (ds.take n) (vs.take n)
 |_,_,0,_=>.nil
 |_,_,_+1,.nil=>.nil
 |_,_,n+1,.cons r t=>.cons r (bW.take n t)
theorem bW.ints(ns:List Int):bW K H (ns.map D.int) (ns.map V.int):=by
 induction ns with
 |nil=>exact .nil
 |cons n r ih=>exact .cons (.int n) ih
theorem bW.a0B(r:bW K H ds vs):vs=[]↔ds=[]:=by
 cases r<;>simp
end
noncomputable abbrev DK:=Key ⊕ List Key
inductive GO where
 |lst (ds:List D)|rol (ds:List D)|bC (t:Bool) (kvs:List (DK×D))|ins (C:bw) (fs:List (Str×D))|exn (C:bw)|yM (o:Obj) (t:Bool) (kvs:List (DK×D))|tpl (ds:List D)|uV (kvs:List (NK×Int))|rnm (o:Obj) (kvs:List (NK×Int))
noncomputable abbrev Gp:=Addr->Option GO
noncomputable def aH(G:Gp)(a:bw)(o:GO):Gp:=λb=>if b=a then aj o else G b
theorem aD{o:GO}:aH G a o a=aj o:=by unfold aH;rw[if_pos rfl]
theorem aN{o:GO}(h:b≠a):aH G a o b=G b:=by unfold aH;rw[if_neg h]
theorem dX{o:GO}(h:G b=aj u)(n:G a=bh):aH G a o b=aj u:=by
 rw[aN];exact h;intro e;subst e;rw[h]at n;cases n
def Le(G G':Gp):Prop:=∀a o,G a=aj o->G' a=aj o
theorem Le.refl(G:Gp):Le G G:=λ_ _ h=>h
theorem Le.trans(a:Le G G1)(b:Le G1 G2):Le G G2:=λc o h=>b c o (a c o h)
theorem Le.new{o:GO}(n:G a=bh):Le G (aH G a o):=λ_ _ h=>dX h n
theorem Le.free(l:Le G G')(h:G' a=bh):G a=bh:=by
 cases q:G a with
 |none=>rfl
 |some o=>have:=l a o q;rw[h]at this;cases this
noncomputable def kD:Key->D
 |.inl i=>.int i
 |.inr x=>.str x
noncomputable def dkD:DK->D
 |.inl k=>kD k
 |.inr ks=>.tup (ks.map kD)
inductive Two{α β:Type}(P:α->β->Prop):List α->List β->Prop where
 |nil:Two P [] []
 |cons {a:α} {b:β} {as:List α} {bs:List β}:P a b->Two P as bs->Two P (a::as) (b::bs)
theorem Two.imp{α β:Type}{P Q:α->β->Prop}(f:∀a b,P a b->Q a b):∀{as:List α}{bs:List β},Two P as bs->Two Q as bs
 |_,_,.nil=>.nil
 |_,_,.cons h r=>.cons (f _ _ h) (Two.imp f r)
theorem Two.length{α β:Type}{P:α->β->Prop}:∀{as:List α}{bs:List β},Two P as bs->as.length=bs.length
 |_,_,.nil=>rfl
 |_,_,.cons _ r=>congrArg (·+1) (Two.length r)
def adX(C a:bw)(h:jj):Prop:=∃o vs,h.get? a=aj o/\o.cls=.ref C/\o.data=.fields vs
noncomputable def nkD(k:NK):D:=.tup [.tup (k.1.map D.int),.int k.2]
def auK(P:jo)(w:jf)(a:bw)(xs:List (NK×bw×aq))(h:jj):Prop:=(a==nj)=ao/\∃o es ep,h.get? a=aj o/\o.ExactDict/\o.data=.dict es ep/\es.toList=xs.map (entryOfKey (tD P w))/\(xs.map (·.1)).Nodup
def adY(K:Fg)(H:Hp)(p:NK×Int)(x:NK×bw×aq):Prop:=x.1=p.1/\RD K H (nkD p.1) (.ref x.2.1)/\∃t,x.2.2=aq.int p.2 t
def NOk(K:Fg)(H:Hp)(a:bw)(kvs:List (NK×Int))(o:HO):Prop:=(kvs=[]/\o=.dT [])∨∃(P:jo)(w:jf)(xs:List (NK×bw×aq)),o=.ext (auK P w a xs)/\Paired (adY K H) kvs xs
theorem NOk.imp{K:Fg}{a:bw}{o:HO}(h:NOk K H a kvs o)(f:∀d v,RD K H d v->RD K H' d v):NOk K H' a kvs o:=Or.imp id (λ⟨P,w,xs,e,r⟩=>⟨P,w,xs,e,Paired.z9 r λ_ _ z=>⟨z.1,f _ _ z.2.1,z.2.2⟩⟩) h
theorem NOk.no{K:Fg}(h:NOk K H a kvs o):(∀xs,o≠.tup xs)/\(∀ob w,o≠.gF ob w)/\(∀ps,o≠.tbl ps)/\∀x,o≠.own x:=by
 rcases h with⟨_,rfl⟩|⟨P,w,xs,rfl,_⟩<;>exact⟨(λ_ z=>nomatch z),(λ_ _ z=>nomatch z),(λ_ z=>nomatch z),(λ_ z=>nomatch z)⟩
noncomputable def OR(K:Fg)(H:Hp)(a:bw):GO->Prop
 |.lst ds=>∃xs,H a=aj (.lst xs)/\bW K H ds xs
 |.rol ds=>∃xs,yJ K H a xs/\bW K H ds xs
 |.bC t kvs=>(t=ao/\∃xs:List (Key×V),H a=aj (.dK xs)/\Two (λp q=>p.1=.inl q.1/\RD K H p.2 q.2) kvs xs) ∨
   (t=ak/\∃xs:List (List Key×V),H a=aj (.dT xs)/\Two (λp q=>p.1=.inr q.1/\RD K H p.2 q.2) kvs xs)
 |.ins C fs=>∃(dx:bw)(vs:List (Str×V)),H a=aj (.ins C dx vs)/\Two (λp q=>p.1=q.1/\RD K H p.2 q.2) fs vs
 |.yM o t kvs=>(t=ao/\∃xs:List (Key×V),H a=aj (.gF o (.dK xs))/\Two (λp q=>p.1=.inl q.1/\RD K H p.2 q.2) kvs xs) ∨
   (t=ak/\∃xs:List (List Key×V),H a=aj (.gF o (.dT xs))/\Two (λp q=>p.1=.inr q.1/\RD K H p.2 q.2) kvs xs)
 |.tpl ds=>∃xs,yK K H a xs/\bW K H ds xs
 |.uV kvs=>∃o,H a=aj o/\NOk K H a kvs o
 |.rnm ob kvs=>∃o,H a=aj (.gF ob o)/\NOk K H a kvs o
 |.exn C=>∃o vs,H a=aj (.gF o (.ext (adX C a)))/\o.data=.fields vs/\vs[2]?=aj .none
def HR(K:Fg)(H:Hp)(G:Gp):Prop:=∀a o,G a=aj o->OR K H a o
theorem OR.keep{K:Fg}{o:GO}(t:Ts H H')(h:OR K H a o)(k:∀u,H a=aj u->H' a=aj u):OR K H' a o:=by
 cases o with
 |lst ds=>obtain⟨xs,e,r⟩:=h;exact⟨xs,k _ e,r.mono t⟩
 |rol ds =>
  obtain⟨xs,e,r⟩:=h;refine⟨xs,?_,r.mono t⟩;rcases e with(e|⟨o,e⟩)|e
  .exact .inl (.inl (k _ e))
  .exact .inl (.inr ⟨o,k _ e⟩)
  .exact .inr e
 |bC b kvs =>
  rcases h with⟨z,xs,e,r⟩|⟨z,xs,e,r⟩
  .exact .inl ⟨z,xs,k _ e,r.imp λ_ _ q=>⟨q.1,q.2.mono t⟩⟩
  .exact .inr ⟨z,xs,k _ e,r.imp λ_ _ q=>⟨q.1,q.2.mono t⟩⟩
 |ins C fs=>obtain⟨dx,vs,e,r⟩:=h;exact⟨dx,vs,k _ e,r.imp λ_ _ q=>⟨q.1,q.2.mono t⟩⟩
 |yM ob b kvs =>
  rcases h with⟨z,xs,e,r⟩|⟨z,xs,e,r⟩
  .exact .inl ⟨z,xs,k _ e,r.imp λ_ _ q=>⟨q.1,q.2.mono t⟩⟩
  .exact .inr ⟨z,xs,k _ e,r.imp λ_ _ q=>⟨q.1,q.2.mono t⟩⟩
 |exn C=>obtain⟨o,vs,e,r⟩:=h;exact⟨o,vs,k _ e,r⟩
 |tpl ds=>obtain⟨xs,e,r⟩:=h;exact⟨xs,t.sqT e,r.mono t⟩
 |uV kvs=>obtain⟨o,e,r⟩:=h;exact⟨o,k _ e,r.imp λ_ _ z=>z.mono t⟩
 |rnm ob kvs=>obtain⟨o,e,r⟩:=h;exact⟨o,k _ e,r.imp λ_ _ z=>z.mono t⟩
theorem HR.same{K:Fg}(h:HR K H G)(s:Same H H'):HR K H' G:=λa o e=>(h a o e).keep (.same s) λu q=>s a u q
theorem HR.le{K:Fg}(h:HR K H G')(l:Le G G'):HR K H G:=λa o e=>h a o (l a o e)
theorem HR.put{K:Fg}(h:HR K H G)(n:H p=bh)(new:OR K (upd H p o) p u):HR K (upd H p o) (aH G p u):=λa v e=>by
 by_cases q:a=p
 .subst q;rw[aD]at e;cases e;exact new
 .rw[aN q]at e;exact(h a v e).keep (.same (bG n)) λw z=>bG n a w z
theorem HR.turn{K:Fg}(h:HR K H G)(t:Ts H (upd H p o))(new:OR K (upd H p o) p u):HR K (upd H p o) (aH G p u):=λa v e=>by
 by_cases q:a=p
 .subst q;rw[aD]at e;cases e;exact new
 .rw[aN q]at e;exact(h a v e).keep t λw z=>by rw[aU q];exact z
theorem Ts.turn(e:H p=aj u)(h1:∀xs,u≠.tup xs)(h2:∀ob w,u≠.gF ob w):Ts H (upd H p o):=by
 refine⟨λa xs q=>?_,λa ob w q=>?_⟩
 .rw[aU];exact q;intro z;subst z;rw[e]at q;exact h1 xs (iz.inj q)
 .rw[aU];exact q;intro z;subst z;rw[e]at q;exact h2 ob w (iz.inj q)
noncomputable abbrev aO:=List (Option D)
abbrev fZ:=D->Gp->Prop
abbrev bV:=aO->Gp->fZ->Prop
abbrev yN:=aO->Gp->(Bool->Gp->Prop)->Prop
abbrev sS:=aO->Gp->(List D->Gp->Prop)->Prop
noncomputable def at3:aO->Nat->Option D
 |[],_=>bh
 |x::_,0=>x
 |_::r,n+1=>at3 r n
noncomputable def a6E:aO->Nat->D->aO
 |[],_,_=>[]
 |_::r,0,d=>aj d::r
 |x::r,n+1,d=>x::a6E r n d
inductive SR(K:Fg)(H:Hp):aO->St->Prop where
 |nil:SR K H [] []
 |none {ρ:aO} {σ:St} {v:Option V}:SR K H ρ σ->SR K H (a1d::ρ) (v::σ)
 |some {ρ:aO} {σ:St} {d:D} {v:V}:RD K H d v->SR K H ρ σ->SR K H (iz d::ρ) (iz v::σ)
theorem SR.mono{K:Fg}(t:Ts H H'):∀{ρ:aO}{σ:St},SR K H ρ σ->SR K H' ρ σ
 |_,_,.nil=>.nil
 |_,_,.none r=>.none (SR.mono t r)
 |_,_,.some h r=>.some (h.mono t) (SR.mono t r)
theorem SR.get{K:Fg}:∀{ρ:aO}{σ:St}{i:Nat}{d:D},SR K H ρ σ->at3 ρ i=iz d->∃v,σ[i]?=iz (iz v)/\RD K H d v
 |_,_,_,_,.nil,e=>by simp[at3]at e
 |_,_,0,_,.none _,e=>by simp[at3]at e
 |_,_,0,_,.some h _,e=>by simp[at3]at e;subst e;exact⟨_,rfl,h⟩
 |_,_,i+1,_,.none r,e=>by
  obtain⟨v,h1,h2⟩:=SR.get (i:=i) r (by simpa[at3]using e);exact⟨v,by simpa using h1,h2⟩
 |_,_,i+1,_,.some _ r,e=>by
  obtain⟨v,h1,h2⟩:=SR.get (i:=i) r (by simpa[at3]using e);exact⟨v,by simpa using h1,h2⟩
theorem SR.set{K:Fg}{v:V}(q:RD K H d v):∀{ρ:aO}{σ:St}(i:Nat),SR K H ρ σ->SR K H (a6E ρ i d) (σ.set i (iz v))
 |_,_,_,.nil=>.nil
 |_,_,0,.none r=>.some q r
 |_,_,0,.some _ r=>.some q r
 |_,_,i+1,.none r=>.none (SR.set q i r)
 |_,_,i+1,.some h r=>.some h (SR.set q i r)
theorem SR.len{K:Fg}:∀{ρ:aO}{σ:St},SR K H ρ σ->ρ.length=σ.length
 |_,_,.nil=>rfl
 |_,_,.none r=>congrArg (·+1) (SR.len r)
 |_,_,.some _ r=>congrArg (·+1) (SR.len r)
noncomputable def abR(n:Nat)(ds:List D):aO:=ds.map iz++a0p (n - ds.length) a1d
theorem SR.nones{K:Fg}:∀n:Nat,SR K H (a0p n a1d) (a0p n a1d)
 |0=>.nil
 |n+1=>.none (SR.nones n)
theorem SR.entry{K:Fg}{k:Nat}:∀{ds:List D}{vs:List V},bW K H ds vs->SR K H (ds.map iz++a0p k a1d) (vs.map iz++a0p k a1d)
 |_,_,.nil=>SR.nones k
 |_,_,.cons h r=>.some h (SR.entry r)
noncomputable def upE(K:Fg)(t:bV):TE:=λσ H Q=>∃ρ G R,SR K H ρ σ/\HR K H G/\t ρ G R/\∀v H' d G',Ts H H'->RD K H' d v->HR K H' G'->R d G'->Q v H'
noncomputable def upT(K:Fg)(t:yN):TT:=λσ H Q=>∃ρ G R,SR K H ρ σ/\HR K H G/\t ρ G R/\∀b H' G',Ts H H'->HR K H' G'->R b G'->Q b H'
noncomputable def upA(K:Fg)(t:sS):TA:=λσ H Q=>∃ρ G R,SR K H ρ σ/\HR K H G/\t ρ G R/\∀vs H' ds G',Ts H H'->bW K H' ds vs->HR K H' G'->R ds G'->Q vs H'
abbrev bY(X:Cx)(e:jk)(t:bV):Prop:=PE X e (upE X.K t)
abbrev PT3(X:Cx)(e:jk)(t:yN):Prop:=PT X e (upT X.K t)
abbrev PW3(X:Cx)(e:jk)(t:yN):Prop:=PW X e (upT X.K t)
abbrev PA3(X:Cx)(es:List jk)(t:sS):Prop:=PA X es (upA X.K t)
structure cP where
 nx:aO->Gp->Prop
 rt:fZ
 bk:aO->Gp->Prop:=λ_ _=>False
 ct:aO->Gp->Prop:=λ_ _=>False
abbrev bK:=cP->aO->Gp->Prop
structure UpD(K:Fg)(E:cP)(F:Ends):Prop where
 nx:∀ρ G σ H',SR K H' ρ σ->HR K H' G->E.nx ρ G->F.nx σ H'
 rt:∀d G v H',RD K H' d v->HR K H' G->E.rt d G->F.rt v H'
 bk:∀ρ G σ H',SR K H' ρ σ->HR K H' G->E.bk ρ G->F.bk σ H'
 ct:∀ρ G σ H',SR K H' ρ σ->HR K H' G->E.ct ρ G->F.ct σ H'
noncomputable def upS(K:Fg)(t:bK):TS:=λF σ H=>∃ρ G E,SR K H ρ σ/\HR K H G/\t E ρ G/\UpD K E F
abbrev PS3(X:Cx)(st:qp)(t:bK):Prop:=PS X st (upS X.K t)
abbrev a4R(X:Cx)(st:List qp)(t:bK):Prop:=PSs X st (upS X.K t)
section
variable{X:Cx}
theorem PE.imp{t:TE}(h:PE X e t)(k:∀σ H Q,t' σ H Q->t σ H Q):PE X e t':=λpins s σ H Q I q=>h pins s σ H Q I (k _ _ _ q)
theorem PT.imp{t:TT}(h:PT X e t)(k:∀σ H Q,t' σ H Q->t σ H Q):PT X e t':=λpins s σ H Q I q=>h pins s σ H Q I (k _ _ _ q)
theorem PW.imp{t:TT}(h:PW X e t)(k:∀σ H Q,t' σ H Q->t σ H Q):PW X e t':=λwh pins s σ H Q I q=>h wh pins s σ H Q I (k _ _ _ q)
theorem PA.imp{t:TA}(h:PA X e t)(k:∀σ H Q,t' σ H Q->t σ H Q):PA X e t':=λp pins s σ H Q I q=>h p pins s σ H Q I (k _ _ _ q)
theorem PS.imp{t:TS}(h:PS X e t)(k:∀F σ H,t' F σ H->t F σ H):PS X e t':=λpins s σ H F I q=>h pins s σ H F I (k _ _ _ q)
def KF(K:Fg)(H:Hp):Prop:=∀b o,K.lookup b=aj o->H b=bh
theorem nG(I:Inv X pins σ H s):KF X.K H:=λb o e=>(I.bs b o (I.ok.mod.kin b o e)).2
theorem PE.kf{t:TE}(h:PE X e t):PE X e (λσ H Q=>t σ H λv H'=>KF X.K H'->Q v H'):=λpins s σ H Q I q =>
 cR (h pins s σ H _ I q) λ_ _ ⟨v,H',I',r,q'⟩=>⟨v,H',I',r,q' (nG I')⟩
theorem PSs.imp{t:TS}(h:PSs X e t)(k:∀F σ H,t' F σ H->t F σ H):PSs X e t':=λpins s σ H F I q=>h pins s σ H F I (k _ _ _ q)
end
theorem gH{K:Fg}(g:HR K H G)(n:H p=bh)(k:KF K (upd H p o)):G p=bh:=by
 have kn:K.lookup p=bh:=by
  cases q:K.lookup p with
  |none=>rfl
  |some u=>have:=k p u q;rw[aK]at this;cases this
 cases q:G p with
 |none=>rfl
 |some u =>
  have z:=g p u q;cases u with
  |lst ds=>obtain⟨xs,e,_⟩:=z;rw[n]at e;cases e
  |rol ds =>
   obtain⟨xs,e,_⟩:=z;rcases e with(e|⟨o,e⟩)|⟨o,_,_,e,_⟩
   .rw[n]at e;cases e
   .rw[n]at e;cases e
   .rw[kn]at e;cases e
  |bC tt kvs =>
   rcases z with⟨_,xs,e,_⟩|⟨_,xs,e,_⟩
   .rw[n]at e;cases e
   .rw[n]at e;cases e
  |yM ob tt kvs =>
   rcases z with⟨_,xs,e,_⟩|⟨_,xs,e,_⟩
   .rw[n]at e;cases e
   .rw[n]at e;cases e
  |ins C fs=>obtain⟨dx,vs,e,_⟩:=z;rw[n]at e;cases e
  |exn C=>obtain⟨o,vs,e,_⟩:=z;rw[n]at e;cases e
  |uV kvs=>obtain⟨_,e,_⟩:=z;rw[n]at e;cases e
  |rnm ob kvs=>obtain⟨_,e,_⟩:=z;rw[n]at e;cases e
  |tpl ds =>
   obtain⟨xs,e,_⟩:=z;rcases e with(e|⟨o,e⟩)|⟨o,_,_,e,_⟩
   .rw[n]at e;cases e
   .rw[n]at e;cases e
   .rw[kn]at e;cases e
section
variable{X:Cx}{a b c:jk}{ta tb tc:bV}{pos:Pos}
noncomputable def aB(i:Nat):bV:=λρ G R=>match at3 ρ i with
 |some d=>R d G
 |none=>False
noncomputable def bN(d:D):bV:=λ_ G R=>R d G
set_option tactic.hygienic true in
theorem aB6{K:Fg}{Q:VK}(h:upE K (aB i) σ H Q):aA2 i σ H Q:=by
 obtain⟨ρ,G,R,s,g,t,k⟩:=h;unfold aB at t;split at t
 .rename_i d e;obtain⟨v,h1,h2⟩:=s.get e;exact⟨v,h1,k v H d G (.refl H) h2 g t⟩
 .exact t.elim
theorem amB{K:Fg}(r:∀H,RD K H d v){Q:VK}(h:upE K (bN d) σ H Q):tC v σ H Q:=by
 obtain⟨ρ,G,R,s,g,t,k⟩:=h;exact k v H d G (.refl H) (r H) g t
theorem aH0(i:Nat)(hN:X.N[i]?=aj x:=by rfl)(hv:Vis X.env.scope x:=by first|exact Or.inl rfl|exact Or.inr (Or.inl rfl)|exact Or.inr (Or.inr rfl))(hd:(x==("__debug__":Str))=ao:=by decide)
  (hcd:(x==("__classdict__":Str))=ao:=by decide):bY X (.Name x pos) (aB i):=PE.imp (anS hN hv hd hcd) λ_ _ _ h=>aB6 h
theorem aH1{i j pos}:bY X (.Constant (.int i) j pos) (bN (.int i)):=PE.imp aA3 λ_ _ _ h=>amB (λ_=>.int i) h
theorem aM0{b j pos}:bY X (.Constant (.bool b) j pos) (bN (.bl b)):=PE.imp aFY λ_ _ _ h=>amB (λ_=>.bl b) h
theorem aH2{j pos}:bY X (.Constant .none j pos) (bN .non):=PE.imp aA4 λ_ _ _ h=>amB (λ_=>.non) h
theorem aH3{x j pos}:bY X (.Constant (.str x) j pos) (bN (.str x)):=PE.imp aA5 λ_ _ _ h=>amB (λ_=>.str x) h
theorem aoH(hg:Gl X x)(hm:X.mg x=aj u)(r:RelV v u)(rd:∀H,RD X.K H d v)(hd:(x==("__debug__":Str))=ao:=by decide):bY X (.Name x pos) (bN d) :=
 PE.imp (atJ hg hm r hd) λ_ _ _ h=>amB rd h
theorem aB7{n:String}(hg:Gl X x)(hm:X.mg x=bh)(hv:ni x=aj (.type n))(hn:x≠"__name__":=by decide)(hd:(x==("__debug__":Str))=ao:=by decide):bY X (.Name x pos) (bN (.ty n)) :=
 PE.imp (atL hg hm hv (v:=.ty n) rfl hn hd) λ_ _ _ h=>amB (λ_=>.ty n) h
abbrev R3:=D->D->Gp->fZ->Prop
def OpI(K:Fg)(r:R2)(r3:R3):Prop:=∀(H:Hp)(x y:D)(vx vy:V)(G:Gp)(R:fZ)(Q:VK),RD K H x vx->RD K H y vy->HR K H G->r3 x y G R->(∀v H' d G',Ts H H'->RD K H' d v->HR K H' G'->R d G'->Q v H')->r vx vy H λv H'=>KF K H'->Q v H'
def a6F(X:Cx)(f:aq->aq->Sem aq)(r3:R3):Prop:=∃r,rA X f r/\OpI X.K r r3
def OpC(K:Fg)(r:R2)(r3:R3):Prop:=∀(H:Hp)(x y:D)(vx vy:V)(G:Gp)(R:fZ)(Q:VK),RD K H x vx->RD K H y vy->HR K H G->r3 x y G R->(∀v H' d G',Ts H H'->RD K H' d v->HR K H' G'->R d G'->Q v H')->r vx vy H Q
def jY(X:Cx)(f:aq->aq->Sem aq)(r3:R3):Prop:=∃r,rA X f r/\OpC X.K r r3
noncomputable def aL(r:R3)(ta tb:bV):bV:=λρ G R=>ta ρ G λx G1=>tb ρ G1 λy G2=>r x y G2 R
variable{r3:R3}
theorem aH4{K:Fg}(o:OpI K r r3){Q:VK}(h:upE K (aL r3 ta tb) σ H Q):tOp r (upE K ta) (upE K tb) σ H λv H'=>KF K H'->Q v H':=by
 obtain⟨ρ,G,R,s,g,t,k⟩:=h;refine⟨ρ,G,_,s,g,t,λvx H1 x G1 t1 rx g1 t'=>?_⟩;refine⟨ρ,G1,_,s.mono t1,g1,t',λvy H2 y G2 t2 ry g2 t''=>?_⟩;exact o H2 x y vx vy G2 R Q (rx.mono t2) ry g2 t'' λv H' d G' t3=>k v H' d G' ((t1.trans t2).trans t3)
theorem ahH{K:Fg}(o:OpC K r r3){Q:VK}(h:upE K (aL r3 ta tb) σ H Q):tOp r (upE K ta) (upE K tb) σ H Q:=by
 obtain⟨ρ,G,R,s,g,t,k⟩:=h;refine⟨ρ,G,_,s,g,t,λvx H1 x G1 t1 rx g1 t'=>?_⟩;refine⟨ρ,G1,_,s.mono t1,g1,t',λvy H2 y G2 t2 ry g2 t''=>?_⟩;exact o H2 x y vx vy G2 R Q (rx.mono t2) ry g2 t'' λv H' d G' t3=>k v H' d G' ((t1.trans t2).trans t3)
theorem aM1(o:a6F X (wu op) r3)(ha:bY X a ta)(hb:bY X b tb):bY X (.BinOp a op b pos) (aL r3 ta tb):=by
 obtain⟨r,o1,o2⟩:=o;exact PE.imp (PE.kf (aGB o1 ha hb)) λ_ _ _ h=>aH4 o2 h
theorem ajJ(o:jY X (jd op) r3)(ha:bY X a ta)(hb:bY X b tb)(hm:uw op b=ao):bY X (.Compare a [op] [b] pos) (aL r3 ta tb):=by
 obtain⟨r,o1,o2⟩:=o;exact PE.imp (atY o1 ha hb hm) λ_ _ _ h=>ahH o2 h
noncomputable def bH(t:bV):yN:=λρ G R=>t ρ G λx G1=>match x with
 |.bl k=>R k G1
 |_=>False
theorem abT{K:Fg}{t:TE}(f:∀σ H Q,upE K t3 σ H Q->t σ H Q)(h:upT K (bH t3) σ H Q):ao1 t σ H Q:=by
 obtain⟨ρ,G,R,s,g,u,k⟩:=h;refine f _ _ _ ⟨ρ,G,_,s,g,u,λv H' d G' t1 r g1 q=>?_⟩;cases r with
 |bl b=>exact⟨b,rfl,k b H' G' t1 g1 q⟩
 |_=>exact q.elim
theorem ae0(o:jY X (jd op) r3)(ha:bY X a ta)(hb:bY X b tb)(hm:uw op b=ao):PT3 X (.Compare a [op] [b] pos) (bH (aL r3 ta tb)):=by
 obtain⟨r,o1,o2⟩:=o;exact PT.imp (atZ o1 ha hb hm) λ_ _ _ h=>abT (λ_ _ _=>ahH o2) h
theorem aH5{e:jk}{t:bV}(h:bY X e t)(he:∀whole,isTrue e X.env whole=(do let v ←whole;standAt e.pos;holding [v] (truthy v)):=by intro _;rfl):PT3 X e (bH t) :=
 PT.imp (aA6 h he) λ_ _ _ h=>abT (λ_ _ _ q=>q) h
noncomputable def pK(r r':R3)(ta tb tc:bV):bV:=λρ G R=>ta ρ G λx G1=>tb ρ G1 λy G2=>r x y G2 λz G3=>match z with
 |.bl ak=>tc ρ G3 λw G4=>r' y w G4 R
 |.bl ao=>R (.bl ao) G3
 |_=>False
variable{r3':R3}
theorem ae1{K:Fg}(o:OpC K r r3)(o':OpC K r' r3'){Q:VK}(h:upE K (pK r3 r3' ta tb tc) σ H Q):ah0 r r' (upE K ta) (upE K tb) (upE K tc) σ H Q:=by
 obtain⟨ρ,G,R,s,g,t,k⟩:=h;refine⟨ρ,G,_,s,g,t,λvx H1 x G1 t1 rx g1 t'=>?_⟩;refine⟨ρ,G1,_,s.mono t1,g1,t',λvy H2 y G2 t2 ry g2 t''=>?_⟩;refine o H2 x y vx vy G2 _ _ (rx.mono t2) ry g2 t'' λv H3 d G3 t3 rd g3 q=>?_;cases rd with
 |bl b =>
  refine⟨b,rfl,?_⟩;cases b with
  |true =>
   rw[if_pos rfl];refine⟨ρ,G3,_,s.mono ((t1.trans t2).trans t3),g3,q,λvw H4 w G4 t4 rw' g4 q'=>?_⟩;exact o' H4 y w vy vw G4 R Q (ry.mono (t3.trans t4)) rw' g4 q' λv H' d G' t5=>k v H' d G' (((t1.trans t2).trans t3).trans (t4.trans t5))
  |false =>
   rw[if_neg oh];exact k _ H3 _ G3 ((t1.trans t2).trans t3) (.bl ao) g3 q
 |_=>exact q.elim
theorem auM(o:jY X (jd op) r3)(o':jY X (jd op') r3')(ha:bY X a ta)(hb:bY X b tb)(hc:bY X c tc)
  (hm:lastMarks [op,op'] [b,c]=ao:=by with_unfolding_all rfl):bY X (.Compare a [op,op'] [b,c] pos) (pK r3 r3' ta tb tc):=by
 obtain⟨r,o1,o2⟩:=o;obtain⟨r',o1',o2'⟩:=o';exact PE.imp (ao2 o1 o1' ha hb hc hm) λ_ _ _ h=>ae1 o2 o2' h
theorem auN(o:jY X (jd op) r3)(o':jY X (jd op') r3')(ha:bY X a ta)(hb:bY X b tb)(hc:bY X c tc)
  (hm:lastMarks [op,op'] [b,c]=ao:=by with_unfolding_all rfl):PT3 X (.Compare a [op,op'] [b,c] pos) (bH (pK r3 r3' ta tb tc)):=by
 obtain⟨r,o1,o2⟩:=o;obtain⟨r',o1',o2'⟩:=o';exact PT.imp (ao3 o1 o1' ha hb hc hm) λ_ _ _ h=>abT (λ_ _ _=>ae1 o2 o2') h
variable{sa:yN}{rest:List jk}
noncomputable def aoI(t u:yN):yN:=λρ G R=>t ρ G λc G1=>if c=ak then u ρ G1 R else R ao G1
noncomputable def ahI(t u:yN):yN:=λρ G R=>t ρ G λc G1=>if c=ak then R ak G1 else u ρ G1 R
noncomputable def v9(t:yN):yN:=λρ G R=>t ρ G λc G1=>R (!c) G1
theorem aB8{K:Fg}(h:upT K (aoI sa sb) σ H Q):aFZ (upT K sa) (upT K sb) σ H Q:=by
 obtain⟨ρ,G,R,s,g,t,k⟩:=h;refine⟨ρ,G,_,s,g,t,λc H1 G1 t1 g1 q=>?_⟩;cases c with
 |true=>exact⟨ρ,G1,R,s.mono t1,g1,q,λb H' G' t2=>k b H' G' (t1.trans t2)⟩
 |false=>exact k ao H1 G1 t1 g1 q
theorem aH6{K:Fg}(h:upT K (ahI sa sb) σ H Q):tOr (upT K sa) (upT K sb) σ H Q:=by
 obtain⟨ρ,G,R,s,g,t,k⟩:=h;refine⟨ρ,G,_,s,g,t,λc H1 G1 t1 g1 q=>?_⟩;cases c with
 |false=>exact⟨ρ,G1,R,s.mono t1,g1,q,λb H' G' t2=>k b H' G' (t1.trans t2)⟩
 |true=>exact k ak H1 G1 t1 g1 q
theorem aB9(ha:PT3 X a sa):PW3 X (.BoolOp .And [a] pos) sa:=atM ha
theorem aH7(ha:PT3 X a sa):PW3 X (.BoolOp .Or [a] pos) sa:=aA7 ha
theorem aH8(ha:PT3 X a sa)(hb:PW3 X (.BoolOp .And (b::rest) pos) sb):PW3 X (.BoolOp .And (a::b::rest) pos) (aoI sa sb):=PW.imp (aA8 ha hb) λ_ _ _ h=>aB8 h
theorem aM2(ha:PT3 X a sa)(hb:PW3 X (.BoolOp .Or (b::rest) pos) sb):PW3 X (.BoolOp .Or (a::b::rest) pos) (ahI sa sb):=PW.imp (aG0 ha hb) λ_ _ _ h=>aH6 h
theorem aH9(ha:PT3 X a sa):PT3 X (.UnaryOp .Not a pos) (v9 sa):=PT.imp (aA9 ha) λσ H Q h=>by
 obtain⟨ρ,G,R,s,g,t,k⟩:=h;exact⟨ρ,G,_,s,g,t,λc H1 G1 t1 g1 q=>k (!c) H1 G1 t1 g1 q⟩
noncomputable def vA(ta tb:bV):bV:=λρ G R=>ta ρ G λx G1=>match x with
 |.bl ak=>tb ρ G1 R
 |.bl ao=>R (.bl ao) G1
 |_=>False
noncomputable def ayL(ta tb:bV):bV:=λρ G R=>ta ρ G λx G1=>match x with
 |.bl ak=>R (.bl ak) G1
 |.bl ao=>tb ρ G1 R
 |_=>False
noncomputable def abU(ta:bV):bV:=λρ G R=>ta ρ G λx G1=>match x with
 |.bl c=>R (.bl (!c)) G1
 |_=>False
theorem ayM{op}(h:bY X a ta):bY X (.BoolOp op [a] pos) ta:=aAA h
theorem aHA(ha:bY X a ta)(hb:bY X (.BoolOp .And (b::rest) pos) tb):bY X (.BoolOp .And (a::b::rest) pos) (vA ta tb):=PE.imp (aAB ha hb) λσ H Q h=>by
 obtain⟨ρ,G,R,s,g,t,k⟩:=h;refine⟨ρ,G,_,s,g,t,λv H1 x G1 t1 r g1 q=>?_⟩;cases r with
 |bl c =>
  refine⟨c,rfl,?_⟩;cases c with
  |true=>exact⟨ρ,G1,R,s.mono t1,g1,q,λb H' d G' t2=>k b H' d G' (t1.trans t2)⟩
  |false=>exact k _ H1 _ G1 t1 (.bl ao) g1 q
 |_=>exact q.elim
theorem aM3(ha:bY X a ta)(hb:bY X (.BoolOp .Or (b::rest) pos) tb):bY X (.BoolOp .Or (a::b::rest) pos) (ayL ta tb):=PE.imp (aG3 ha hb) λσ H Q h=>by
 obtain⟨ρ,G,R,s,g,t,k⟩:=h;refine⟨ρ,G,_,s,g,t,λv H1 x G1 t1 r g1 q=>?_⟩;cases r with
 |bl c =>
  refine⟨c,rfl,?_⟩;cases c with
  |false=>exact⟨ρ,G1,R,s.mono t1,g1,q,λb H' d G' t2=>k b H' d G' (t1.trans t2)⟩
  |true=>exact k _ H1 _ G1 t1 (.bl ak) g1 q
 |_=>exact q.elim
theorem aHB(ha:bY X a ta):bY X (.UnaryOp .Not a pos) (abU ta):=PE.imp (aAC ha) λσ H Q h=>by
 obtain⟨ρ,G,R,s,g,t,k⟩:=h;refine⟨ρ,G,_,s,g,t,λv H1 x G1 t1 r g1 q=>?_⟩;cases r with
 |bl c=>exact⟨c,rfl,k _ H1 _ G1 t1 (.bl _) g1 q⟩
 |_=>exact q.elim
end
section
variable{X:Cx}{t:sS}{pos:Pos}
noncomputable def aG:sS:=λ_ G R=>R [] G
noncomputable def aA(ta:bV)(tr:sS):sS:=λρ G R=>ta ρ G λx G1=>tr ρ G1 λxs G2=>R (x::xs) G2
theorem aoJ:PA3 X [] aG:=PA.imp aAS λσ H Q h=>by
 obtain⟨ρ,G,R,s,g,t,k⟩:=h;exact k [] H [] G (.refl H) .nil g t
theorem zE(ha:bY X e te)(hr:PA3 X es t)(hs:jg (e::es) X.env=(ao,eval e X.env)::jg es X.env:=by rfl):PA3 X (e::es) (aA te t):=PA.imp (au2 ha hr hs) λσ H Q h=>by
 obtain⟨ρ,G,R,s,g,t,k⟩:=h;refine⟨ρ,G,_,s,g,t,λv H1 x G1 t1 r g1 q=>?_⟩;refine⟨ρ,G1,_,s.mono t1,g1,q,λvs H2 xs G2 t2 rs g2 q'=>?_⟩;exact k (v::vs) H2 (x::xs) G2 (t1.trans t2) (.cons (r.mono t2) rs) g2 q'
noncomputable def gJ(t:sS):bV:=λρ G R=>t ρ G λxs G1=>xs.length<=cu/\R (.tup xs) G1
noncomputable def pL(t:sS):bV:=λρ G R=>t ρ G λxs G1=>xs.length<=cu/\∀p,G1 p=bh->R (.ref p) (aH G1 p (.lst xs))
theorem aHC{x1}(h:PA3 X es t):bY X (.Tuple es x1 pos) (gJ t):=PE.imp (aAT h) λσ H Q h=>by
 obtain⟨ρ,G,R,s,g,t,k⟩:=h;refine⟨ρ,G,_,s,g,t,λvs H1 xs G1 t1 r g1 q=>?_⟩;refine⟨by rw[←r.length];exact q.1,λp hp=>?_⟩;have sn:Same H1 (upd H1 p (.tup vs)):=bG hp;exact k (.ref p) _ (.tup xs) G1 (t1.trans (.same sn)) (.tup (yK.of aK) (r.mono (.same sn)) (am8 aK)) (g1.same sn) q.2
theorem aHD(h:PA3 X es t):bY X (.List es pos) (pL t):=PE.imp (PE.kf (aAU h)) λσ H Q h=>by
 obtain⟨ρ,G,R,s,g,t,k⟩:=h;refine⟨ρ,G,_,s,g,t,λvs H1 xs G1 t1 r g1 q=>?_⟩;refine⟨by rw[←r.length];exact q.1,λp hp kf=>?_⟩;have sn:Same H1 (upd H1 p (.lst vs)):=bG hp;exact k (.ref p) _ (.ref p) _ (t1.trans (.same sn)) (.ref p) (g1.put (u:=.lst xs) hp ⟨vs,aK,r.mono (.same sn)⟩) (q.2 p (gH g1 hp kf))
end
end
section
section
variable{X:Cx}{a b c:jk}{pos:Pos}
noncomputable def rI3(C:Int->Int->Prop)(g:Int->Int->Int):R3:=λx y G R=>match x,y with
 |.int i,.int j=>C i j/\R (.int (g i j)) G
 |_,_=>False
noncomputable def aHF(g:Int->Int->Int):R3:=λx y G R=>match x,y with
 |.int i,.int j=>R (.int (g i j)) G
 |_,_=>False
noncomputable def auO(g:Int->Int->Bool):R3:=λx y G R=>match x,y with
 |.int i,.int j=>R (.bl (g i j)) G
 |_,_=>False
theorem ajK{g:Int->Int->Int}(h:rA X f (rI C λi j=>.int (g i j))):a6F X f (rI3 C g):=by
 refine⟨_,h,λH x y vx vy G R Q rx ry gh h k=>?_⟩;cases rx with
 |int i =>
  cases ry with
  |int j=>exact⟨i,j,rfl,rfl,h.1,λ_=>k _ H _ G (.refl H) (.int _) gh h.2⟩
  |_=>exact False.elim h
 |_=>exact False.elim h
theorem aBA{g:Int->Int->Int}(h:rA X f (rI0 λi j=>.int (g i j))):a6F X f (aHF g):=by
 refine⟨_,h,λH x y vx vy G R Q rx ry gh h k=>?_⟩;cases rx with
 |int i =>
  cases ry with
  |int j=>exact⟨i,j,rfl,rfl,λ_=>k _ H _ G (.refl H) (.int _) gh h⟩
  |_=>exact False.elim h
 |_=>exact False.elim h
theorem ahJ{g:Int->Int->Bool}(h:rA X f (rI0 λi j=>.bl (g i j))):jY X f (auO g):=by
 refine⟨_,h,λH x y vx vy G R Q rx ry gh h k=>?_⟩;cases rx with
 |int i =>
  cases ry with
  |int j=>exact⟨i,j,rfl,rfl,k _ H _ G (.refl H) (.bl _) gh h⟩
  |_=>exact False.elim h
 |_=>exact False.elim h
noncomputable def a6G:R3:=aHF λi j=>i - j
noncomputable def a0D:R3:=rI3 ao0 λi j=>i*j
noncomputable def tE:R3:=rI3 aAI λi j=>i / j
noncomputable def jA:R3:=rI3 (λ_ j=>0<j) λi j=>i%j
noncomputable def ayN:R3:=rI3 aGE λi j=>i^j.toNat
theorem aHG:a6F X (wu .Sub) a6G:=aBA aAK
theorem aHH:a6F X (wu .Mult) a0D:=ajK aAL
theorem aBB:a6F X (wu .FloorDiv) tE:=ajK atV
theorem aHI:a6F X (wu .Mod) jA:=ajK aAM
theorem aHJ:a6F X (wu .Pow) ayN:=ajK aAN
noncomputable def aoK:R3:=auO λi j=>decide (i<j)
noncomputable def auP:R3:=auO λi j=>decide (j<i)
noncomputable def aHK:R3:=auO λi j=>decide (j<=i)
theorem aM4:jY X (jd .Lt) aoK:=ahJ aGF
theorem aM5:jY X (jd .Gt) auP:=ahJ aGH
theorem aM6:jY X (jd .GtE) aHK:=ahJ aGI
noncomputable def aoL:R3:=λx y G R=>match x,y with
 |.int i,.int j=>R (.bl (decide (i<=j))) G
 |.str i,.str j=>R (.bl (!decide (j.cps.toList<i.cps.toList))) G
 |_,_=>False
theorem amC:rA X (jd .LtE) (λx y H Q=>∃i j,x=.str i/\y=.str j/\Q (.bl (!decide (j.cps.toList<i.cps.toList))) H):=by
 intro pins s σ H x y v u Q I rx ry h;obtain⟨i,j,rfl,rfl,q⟩:=h;obtain⟨t,rfl⟩:=rx;obtain⟨t',rfl⟩:=ry;exact PySem.P.le_str ⟨.bl _,H,I,rfl,q⟩
theorem aM7:jY X (jd .LtE) aoL:=by
 refine⟨_,aGG.or amC,λH x y vx vy G R Q rx ry gh h k=>?_⟩;cases rx with
 |int i =>
  cases ry with
  |int j=>exact .inl ⟨i,j,rfl,rfl,k _ H _ G (.refl H) (.bl _) gh h⟩
  |_=>exact False.elim h
 |str i =>
  cases ry with
  |str j=>exact .inr ⟨i,j,rfl,rfl,k _ H _ G (.refl H) (.bl _) gh h⟩
  |_=>exact False.elim h
 |_=>exact False.elim h
noncomputable def gK:R3:=λx y G R=>match x,y with
 |.int i,.int j=>R (.int (i+j)) G
 |.str i,.str j=>i.length+j.length<=cu/\R (.str (i++j)) G
 |.tup xs,.tup ys=>xs.length+ys.length<=cu/\R (.tup (xs++ys)) G
 |.ref l,.ref m=>match G l,G m with
  |some (.lst xs),aj (.lst ys)=>xs.length+ys.length<=cu/\∀p,G p=bh->R (.ref p) (aH G p (.lst (xs++ys)))
  |_,_=>False
 |_,_=>False
theorem aoM:rA X (wu .Add) (λx y H Q=>∃a b ys,x=.ref a/\y=.ref b/\yK X.K H a []/\yK X.K H b ys/\Q (.ref b) H):=by
 intro pins s σ H x y v u Q I rx ry h;obtain⟨a,b,ys,rfl,rfl,ha,hb,q⟩:=h;cases rx;cases ry;obtain⟨its,r1,p1,_⟩:=I.tuple ha;obtain⟨its2,r2,p2,_⟩:=I.tuple hb;cases r1;obtain⟨⟨cls,dd,data,sl⟩,ho,hc,n,hd⟩:=id p1;obtain⟨⟨cls2,dd2,data2,sl2⟩,ho2,hc2,n2,hd2⟩:=id p2;simp only at hc hd hc2 hd2;subst hc hd hc2 hd2
 exact concat_meets ⟨_,ho,rfl⟩ ⟨_,ho2,rfl⟩ noFill_tuple_add seq_tuple_add PySem.F.slot_tuple_add PySem.F.entry_tuple_add (PySem.F.args_tuple_add_2 _ _)
   (tuple_addW0 a b #[] its2.toArray n n2 dd dd2 sl sl2 (by simp)) ⟨ho,ho2,⟨.ref b,H,I,rfl,q⟩⟩
set_option tactic.hygienic true in
theorem aHL:a6F X (wu .Add) gK:=by
 refine⟨_,aAJ.or (ah1.or (auC.or (aoM.or aB5))),λH x y vx vy G R Q rx ry gh h k=>?_⟩;cases rx with
 |int i =>
  cases ry with
  |int j=>exact .inl ⟨i,j,rfl,rfl,λ_=>k _ H _ G (.refl H) (.int _) gh h⟩
  |_=>exact False.elim h
 |str i =>
  cases ry with
  |str j=>exact .inr (.inl ⟨i,j,rfl,rfl,h.1,λ_=>k _ H _ G (.refl H) (.str _) gh h.2⟩)
  |_=>exact False.elim h
 |@tup a xs ds ha ra ea =>
  cases ry with
  |@tup b ys es hb rb eb =>
   by_cases hn:ds=[]
   .subst hn;cases ra;exact .inr (.inr (.inr (.inl ⟨a,b,ys,rfl,rfl,ha,hb,λ_=>k _ H _ G (.refl H) (.tup hb rb eb) gh h.2⟩)))
   .refine .inr (.inr (.inl ⟨a,b,xs,ys,rfl,rfl,ha,hb,λz=>hn (ra.a0B.mp z),by rw[←ra.length,←rb.length];exact h.1,λz _=>?_,λ_ p hp _=>?_⟩))
    .subst z;cases rb;have h2:=h.2;rw[a0g]at h2;exact k _ H _ G (.refl H) (.tup ha ra ea) gh h2
    .have sn:Same H (upd H p (.tup (xs++ys))):=bG hp;exact k _ _ _ G (.same sn) (.tup (yK.of aK) ((ra.append rb).mono (.same sn)) (am8 aK)) (gh.same sn) h.2
  |_=>exact False.elim h
 |ref l =>
  cases ry with
  |ref m =>
   have h':(match G l,G m with
    |some (.lst xs),aj (.lst ys)=>xs.length+ys.length<=cu/\∀p,G p=bh->R (.ref p) (aH G p (.lst (xs++ys)))
    |_,_=>False):=h
   split at h'
   .rename_i xs ys e1 e2;obtain⟨xv,f1,r1⟩:=gh l _ e1;obtain⟨yv,f2,r2⟩:=gh m _ e2;refine .inr (.inr (.inr (.inr ⟨l,m,xv,yv,rfl,rfl,f1,f2,by rw[←r1.length,←r2.length];exact h'.1,λp hp kf=>?_⟩)));have sn:Same H (upd H p (.lst (xv++yv))):=bG hp;exact k _ _ _ _ (.same sn) (.ref p) (gh.put (u:=.lst (xs++ys)) hp ⟨_,aK,(r1.append r2).mono (.same sn)⟩) (h'.2 p (gH gh hp kf))
   .exact h'.elim
  |_=>exact False.elim h
 |_=>exact False.elim h
noncomputable def aBC:R3:=λx y G R=>match x,y with
 |.non,.non=>R (.bl ak) G
 |_,.non=>R (.bl ao) G
 |.bl i,.bl j=>R (.bl (i==j)) G
 |.int _,.bl _=>R (.bl ao) G
 |.str _,.bl _=>R (.bl ao) G
 |.non,.bl _=>R (.bl ao) G
 |.tup _,.bl _=>R (.bl ao) G
 |.ref _,.bl _=>R (.bl ao) G
 |_,_=>False
noncomputable def aoN:R3:=λx y G R=>aBC x y G λd G'=>match d with
 |.bl k=>R (.bl (!k)) G'
 |_=>False
theorem isV(x:V)(v:aq)(k:Bool)(r:RelV x v):(v==.bool k)=decide (x=.bl k):=by
 cases x with
 |non=>cases r;rfl
 |bl b =>
  cases r;cases b<;>cases k<;>rfl
 |int _=>obtain⟨t,rfl⟩:=r;rfl
 |str _=>obtain⟨t,rfl⟩:=r;rfl
 |byt _=>obtain⟨t,rfl⟩:=r;rfl
 |flt _=>obtain⟨t,rfl⟩:=r;rfl
 |ref _=>cases r;rfl
 |ty _=>cases r;rfl
theorem aa0(x:V)(v:aq)(k:Bool)(r:RelV x v):plainIs v (.bool k)=ak:=by
 cases x with
 |non=>cases r;rfl
 |bl b=>cases r;rfl
 |int _=>obtain⟨t,rfl⟩:=r;rfl
 |str _=>obtain⟨t,rfl⟩:=r;rfl
 |byt _=>obtain⟨t,rfl⟩:=r;rfl
 |flt _=>obtain⟨t,rfl⟩:=r;rfl
 |ref _=>cases r;rfl
 |ty _=>cases r;rfl
theorem auQ:rA X (jd .Is) (λx y H Q=>∃k,y=.bl k/\Q (.bl (decide (x=.bl k))) H):=by
 intro pins s σ H x y v u Q I rx ry h;obtain⟨k,rfl,q⟩:=h;cases ry;exact wpAny_is_plain (aa0 x v k rx) ⟨.bl _,H,I,by rw[isV x v k rx];rfl,q⟩
theorem amD:rA X (jd .IsNot) (λx y H Q=>∃k,y=.bl k/\Q (.bl (!decide (x=.bl k))) H):=by
 intro pins s σ H x y v u Q I rx ry h;obtain⟨k,rfl,q⟩:=h;cases ry;exact wpAny_isNot_plain (aa0 x v k rx) ⟨.bl _,H,I,by rw[isV x v k rx];rfl,q⟩
theorem aM8:jY X (jd .Is) aBC:=by
 refine⟨_,aAP.or auQ,λH x y vx vy G R Q rx ry gh h k=>?_⟩;cases ry with
 |non =>
  refine .inl ⟨rfl,?_⟩;cases rx with
  |non=>exact k _ H _ G (.refl H) (.bl _) gh h
  |_=>exact k _ H _ G (.refl H) (.bl _) gh h
 |bl j =>
  refine .inr ⟨j,rfl,?_⟩;cases rx with
  |bl i =>
   have e:decide (V.bl i=V.bl j)=(i==j):=by cases i<;>cases j<;>rfl
   rw[e];exact k _ H _ G (.refl H) (.bl _) gh h
  |ty n=>exact False.elim h
  |_=>exact k _ H _ G (.refl H) (.bl _) gh h
 |_=>cases rx<;>exact False.elim h
theorem aBD:jY X (jd .IsNot) aoN:=by
 refine⟨_,atX.or amD,λH x y vx vy G R Q rx ry gh h k=>?_⟩;cases ry with
 |non =>
  refine .inl ⟨rfl,?_⟩;cases rx with
  |non=>exact k _ H _ G (.refl H) (.bl _) gh h
  |_=>exact k _ H _ G (.refl H) (.bl _) gh h
 |bl j =>
  refine .inr ⟨j,rfl,?_⟩;cases rx with
  |bl i =>
   have e:decide (V.bl i=V.bl j)=(i==j):=by cases i<;>cases j<;>rfl
   rw[e];exact k _ H _ G (.refl H) (.bl _) gh h
  |ty n=>exact False.elim h
  |_=>exact k _ H _ G (.refl H) (.bl _) gh h
 |_=>cases rx<;>exact False.elim h
noncomputable def aY(G:Gp)(a:bw):Option (List D):=match G a with
 |some (.lst ds)=>aj ds
 |some (.rol ds)=>aj ds
 |_=>bh
set_option tactic.hygienic true in
theorem bU{K:Fg}(g:HR K H G){a:bw}(e:aY G a=aj ds):∃xs,yJ K H a xs/\bW K H ds xs:=by
 unfold aY at e;split at e
 .rename_i ds' q;cases e;obtain⟨xs,h1,h2⟩:=g a _ q;exact⟨xs,yJ.of h1,h2⟩
 .rename_i ds' q;cases e;exact g a _ q
 .cases e
noncomputable def d7:R3:=λx y G R=>match x,y with
 |.tup xs,.int i=>match atI xs i with
  |some d=>R d G
  |none=>False
 |.str z,.int i=>z.length<=cu/\match atI z.cps.toList i with
  |some c=>R (.str ⟨#[c]⟩) G
  |none=>False
 |.ref p,.int i=>match aY G p with
  |some xs=>(match atI xs i with
   |some d=>R d G
   |none=>False)
  |none=>False
 |_,_=>False
theorem aoO{K:Fg}(r:bW K H ds xs){i:Int}(e:atI ds i=aj d):∃v,atI xs i=aj v/\RD K H d v:=by
 unfold atI at e ⊢;rw[←r.length];cases q:ixN ds.length i with
 |none=>rw[q]at e;cases e
 |some j =>
  rw[q]at e;exact r.get e
set_option tactic.hygienic true in
theorem aM9(ha:bY X a ta)(hb:bY X b tb)(hs:abL b):bY X (.Subscript a b pos) (aL d7 ta tb):=by
 refine PE.imp (aGT aB2 ha hb hs) λ_ _ _ h=>ahH ?_ h;intro H x y vx vy G R Q rx ry gh h k;cases rx with
 |@tup p xs ds hp r =>
  cases ry with
  |int i =>
   have h':(match atI ds i with
    |some d=>R d G
    |none=>False):=h
   split at h'
   .rename_i d e;obtain⟨v,e1,e2⟩:=aoO r e;exact .inr (.inl ⟨p,xs,i,v,rfl,rfl,hp,e1,k v H d G (.refl H) e2 gh h'⟩)
   .exact h'.elim
  |_=>exact False.elim h
 |str z =>
  cases ry with
  |int i =>
   have h':z.length<=cu/\(match atI z.cps.toList i with
    |some c=>R (.str ⟨#[c]⟩) G
    |none=>False):=h
   obtain⟨hz,h'⟩:=h';split at h'
   .rename_i d e;exact .inr (.inr ⟨z,i,d,rfl,rfl,hz,e,k _ H _ G (.refl H) (.str _) gh h'⟩)
   .exact h'.elim
  |_=>exact False.elim h
 |ref p =>
  cases ry with
  |int i =>
   have h':(match aY G p with
    |some xs=>(match atI xs i with
     |some d=>R d G
     |none=>False)
    |none=>False):=h
   split at h'
   .rename_i ds e;obtain⟨xs,hp,r⟩:=bU gh e;split at h'
    .rename_i d e';obtain⟨v,e1,e2⟩:=aoO r e';exact .inl ⟨p,xs,i,v,rfl,rfl,hp,e1,k v H d G (.refl H) e2 gh h'⟩
    .exact h'.elim
   .exact h'.elim
  |_=>exact False.elim h
 |_=>exact False.elim h
abbrev TO3:=aO->Gp->(Option Int->Gp->Prop)->Prop
noncomputable def upO(K:Fg)(t:TO3):TO:=λσ H Q=>∃ρ G R,SR K H ρ σ/\HR K H G/\t ρ G R/\∀i H' G',Ts H H'->HR K H' G'->R i G'->Q i H'
abbrev PO3(X:Cx)(e:Option jk)(t:TO3):Prop:=PO X e (upO X.K t)
theorem PO.imp{t:TO}(h:PO X e t)(k:∀σ H Q,t' σ H Q->t σ H Q):PO X e t':=λpins s σ H Q I q=>h pins s σ H Q I (k _ _ _ q)
noncomputable def ae2:TO3:=λ_ G R=>R bh G
noncomputable def aoP(t:bV):TO3:=λρ G R=>t ρ G λx G1=>match x with
 |.int i=>R (aj i) G1
 |_=>False
theorem aBE:PO3 X bh ae2:=PO.imp au9 λσ H Q h=>by
 obtain⟨ρ,G,R,s,g,t,k⟩:=h;exact k bh H G (.refl H) g t
theorem aBF(h:bY X e te):PO3 X (aj e) (aoP te):=PO.imp (auA h) λσ H Q h=>by
 obtain⟨ρ,G,R,s,g,t,k⟩:=h;refine⟨ρ,G,_,s,g,t,λv H1 x G1 t1 r g1 q=>?_⟩;cases r with
 |int i=>exact⟨i,rfl,k _ H1 G1 t1 g1 q⟩
 |_=>exact False.elim q
end
end
variable{F:Ends}
section
section
variable{X:Cx}{st:qp}{rest:List qp}{t u:bK}{te:bV}{pos:Pos}
noncomputable def dI:bK:=λF ρ G=>F.nx ρ G
noncomputable def aW(t u:bK):bK:=λF ρ G=>t {F with nx:=u F} ρ G
theorem aHN:a4R X [] dI:=PSs.imp atN λF σ H h=>by
 obtain⟨ρ,G,E,s,g,q,d⟩:=h;exact d.nx ρ G σ H s g q
theorem aBG{K:Fg}(h:upS K (aW t u) F σ H):aG4 (upS K t) (upS K u) F σ H:=by
 obtain⟨ρ,G,E,s,g,q,d⟩:=h;exact⟨ρ,G,_,s,g,q,⟨λρ' G' σ' H' s1 g1 h=>⟨ρ',G',E,s1,g1,h,d⟩,d.rt,d.bk,d.ct⟩⟩
theorem aBH(h1:PS3 X st t)(h2:a4R X rest u):a4R X (st::rest) (aW t u):=PSs.imp (anU h1 h2) λ_ _ _ h=>aBG h
theorem aHO(h1:PS3 X st t):a4R X [st] t:=atO h1
theorem aBI:PS3 X (.Pass pos) dI:=PS.imp atP λF σ H h=>by
 obtain⟨ρ,G,E,s,g,q,d⟩:=h;exact d.nx ρ G σ H s g q
noncomputable def bR(te:bV):bK:=λF ρ G=>te ρ G λ_ G1=>F.nx ρ G1
theorem aBJ(he:bY X e te)(hs:a0z e bh pos.line X.env=pure ao:=by rfl):PS3 X (.Expr e pos) (bR te):=PS.imp (atQ he hs) λF σ H h=>by
 obtain⟨ρ,G,E,s,g,q,d⟩:=h;exact⟨ρ,G,_,s,g,q,λv H' x G' t1 r g1 h=>d.nx ρ G' σ H' (s.mono t1) g1 h⟩
noncomputable def dY(te:bV):bK:=λF ρ G=>te ρ G F.rt
theorem aHP(he:bY X e te):PS3 X (.Return (aj e) pos) (dY te):=PS.imp (aAD he) λF σ H h=>by
 obtain⟨ρ,G,E,s,g,q,d⟩:=h;exact⟨ρ,G,_,s,g,q,λv H' x G' t1 r g1 h=>d.rt x G' v H' r g1 h⟩
noncomputable def jL(c:yN)(t u:bK):bK:=λF ρ G=>c ρ G λb G1=>if b=ak then t F ρ G1 else u F ρ G1
theorem aMB{a b:List qp}(hc:PT3 X c tc)(ha:a4R X a t)(hb:a4R X b u):PS3 X (.If c a b pos) (jL tc t u):=PS.imp (aG6 hc ha hb) λF σ H h=>by
 obtain⟨ρ,G,E,s,g,q,d⟩:=h;refine⟨ρ,G,_,s,g,q,λb H' G' t1 g1 h=>?_⟩;cases b with
 |true=>exact⟨ρ,G',E,s.mono t1,g1,h,d⟩
 |false=>exact⟨ρ,G',E,s.mono t1,g1,h,d⟩
noncomputable def f9(i:Nat)(te:bV):bK:=λF ρ G=>te ρ G λx G1=>F.nx (a6E ρ i x) G1
theorem aHQ(hN:X.N.Nodup)(hi:X.N[i]?=aj x)(hx:Loc X.env.scope x)(he:bY X e te)(hs:a0z e (aj (.Name x pos')) pos.line X.env=pure ao:=by rfl)(hf:X.fn x=ak∨X.env.scope.names.lookup x=aj .local:=by first|exact .inl rfl|exact .inr rfl|assumption) :
  PS3 X (.Assign [.Name x pos'] e pos) (f9 i te):=PS.imp (aAF hN hi hx he hs hf) λF σ H h=>by
 obtain⟨ρ,G,E,s,g,q,d⟩:=h;exact⟨ρ,G,_,s,g,q,λv H' x G' t1 r g1 h=>d.nx _ G' _ H' ((s.mono t1).set r i) g1 h⟩
end
section
theorem ae3{K:Fg}{J:It}{g:TG}{tb:TS}(Pv:Nat->St->Hp->Prop)(h0:Pv 0 σ H)
  (stop:∀σ H,Pv n σ H->J.stop n H)(go:∀i σ H,i<n->Pv i σ H->J.go i H)
  (hs:∀i x σ H H',i<n->Pv i σ H->J.yld i H x H'->g x σ H' λσ2 H2=>tb {F with nx:=Pv (i+1),ct:=Pv (i+1),bk:=F.nx} σ2 H2)(hd:∀σ H,Pv n σ H->F.nx σ H) :
  ∃W:Nat->Nat->St->Hp->Prop,(∃m,W 0 m σ H)/\∀i m σ H,W i m σ H ->
   (J.stop i H/\F.nx σ H)∨(J.go i H/\∃N:St->Hp->Prop,(∀σ' H',N σ' H'->∃m',m'<m/\W (i+1) m' σ' H')/\∀x H',J.yld i H x H'->g x σ H' λσ2 H2=>tb {F with nx:=N,ct:=N,bk:=F.nx} σ2 H2):=by
 refine⟨λi m σ H=>m=n - i/\i<=n/\Pv i σ H,⟨n,by simp,vh _,h0⟩,?_⟩;rintro i m σ H ⟨rfl,hi,p⟩;by_cases hlt:i<n
 .exact .inr ⟨go i σ H hlt p,Pv (i+1),λσ' H' p'=>⟨n - (i+1),by omega,rfl,hlt,p'⟩,λx H' y=>hs i x σ H H' hlt p y⟩
 .have e:i=n:=by omega
  subst e;exact .inl ⟨stop σ H p,hd σ H p⟩
end
abbrev aX:=Addr->Gp->Prop
abbrev pH:=List D->Gp->fZ->aX->Prop
def UpX(K:Fg)(EX:aX)(E:XK):Prop:=∀C H' G',HR K H' G'->EX C G'->E (.ref C) bh H'
noncomputable def cO(K:Fg)(sp:pH):Sp:=λvs H Q E=>∃ds G R EX,bW K H ds vs/\HR K H G/\sp ds G R EX/\(∀v H' d G',RD K H' d v->HR K H' G'->R d G'->Q v H')/\UpX K EX E
section
variable{EX:aX}
noncomputable def aMC(n m:Nat)(tb:aX->bK):pH:=λds G R EX=>ds.length=m/\tb EX ⟨λ_ G'=>R .non G',R,λ_ _=>False,λ_ _=>False⟩ (abR n ds) G
end
end
section
noncomputable def jZ(P:jo)(w:jf):CXT:=λouter H s E e s'=>∃(x C:bw)(H':Hp)(B:jj),e=.ref x/\Fly B outer x (.ref C) s'.heap/\xQ P w H' B /\
 (∀b o,s.heap.get? b=aj o->H b=bh->b∉frs outer->B.get? b=aj o)/\(∀b o,s.heap.get? b=aj o->b∉frs outer->∃o',B.get? b=aj o') /\
 Un (frs outer) [] H H' s.heap s'.heap/\s'.os=s.os/\AllBare s'.gens/\E (.ref C) bh H'
theorem ajL(h:b∈frs l):∃env∈l,env.frame=aj b:=a1z.mp h
theorem abV{env:Env}(h:env∈l)(e:env.frame=aj b):b∈frs l:=a1z.mpr ⟨env,h,e⟩
section
variable{qt:Bool}{P:jo}{w:jf}{K:Fg}{mg:Str->Option aq}{base:jj}{N:List Str}{qual:Str}{scope:yp}{f:bw}{cd:aq}{A:jr}{outer:List Env}{s₀:dh}{H₀:Hp}{E:XK}
noncomputable abbrev cx1(qt:Bool)(P:jo)(w:jf)(K:Fg)(mg:Str->Option aq)(base:jj)(N:List Str)(qual:Str)(scope:yp)(f:bw)(cd:aq)(A:jr)(outer:List Env)(s₀:dh)(H₀:Hp)(E:XK):Cx:=pG qt (jZ P w) P w K mg base N qual scope f cd A outer s₀ H₀ E
theorem jB{X:Cx}(I:Inv X pins σ H s)(hst:X.stack=X.env::X.outer)(hf:X.env.frame=aj X.env.locals){o:Obj}(e:X.s₀.heap.get? b=aj o)(n:b∉frs X.outer):b∉frs X.stack:=λhb=>by
 obtain⟨env,he,hfr⟩:=ajL hb;rw[hst]at he;rcases je.mp he with rfl|he
 .have z:X.env.locals=b:=iz.inj (hf.symm.trans hfr);have h1:=I.ok.above;have h2:=gw e;rw[z]at h1;exact absurd (jm h2 h1) (ur _)
 .exact n (abV he hfr)
theorem auR(I:Inv (cx1 qt P w K mg base N qual scope f cd A outer s₀ H₀ E) pins σ H s)(hm:a2v s.heap h' e (.ref C) us)(q:E (.ref C) bh H) :
  (cx1 qt P w K mg base N qual scope f cd A outer s₀ H₀ E).xe (.ref e) {s with heap:=h' }:=by
 have hst:(cx1 qt P w K mg base N qual scope f cd A outer s₀ H₀ E).stack=(cx1 qt P w K mg base N qual scope f cd A outer s₀ H₀ E).env::outer:=rfl;have hin:∀env∈(cx1 qt P w K mg base N qual scope f cd A outer s₀ H₀ E).stack,∀b,env.frame=aj b->b∈frs (cx1 qt P w K mg base N qual scope f cd A outer s₀ H₀ E).stack:=λenv he b hb=>abV he hb;have hB:∀b o,(a2j s.heap (frs (cx1 qt P w K mg base N qual scope f cd A outer s₀ H₀ E).stack)).get? b=aj o->s.heap.get? b=aj o:=λb o e=>PySem.W.of_hideAll _ e;have toB:∀b o,s.heap.get? b=aj o->b∉frs (cx1 qt P w K mg base N qual scope f cd A outer s₀ H₀ E).stack->(a2j s.heap (frs (cx1 qt P w K mg base N qual scope f cd A outer s₀ H₀ E).stack)).get? b=aj o:=λb o e n=>PySem.W.hideAll_get _ e n;have fr:=PySem.W.funFrames_hide I.stack hin;refine agW (B:=a2j s.heap (frs (cx1 qt P w K mg base N qual scope f cd A outer s₀ H₀ E).stack)) (h0:=s.heap) I.ok.frames rfl hB fr hm λh2 k1 k4=>?_;have up:∀b o,s.heap.get? b=aj o->(∀vs,o.data≠.fields vs)->∃sl,h2.get? b=aj {o with slots:=sl}:=λb o e nd=>k4 b o (hm.keeps b o e) nd
 have hfd:∀b∈frs outer,∀o,s.heap.get? b=aj o->∀vs,o.data≠.fields vs:=λb hb o e=>by
  obtain⟨_,o',ho',hd⟩:=I.uT.mem hb;rw[e]at ho';cases ho';exact hd
 refine⟨e,C,H,_,rfl,k1,?_,λb o eb nb hb=>?_,λb o eb hb=>?_,⟨λb o eb nb hb _=>?_,λb o eb nb hb _=>?_,λb o eb nb hx=>I.base.free b o eb nb hx,λb o eb hx=>?_,I.base.tups,I.base.jK,I.base.sV⟩,I.os,I.bare,q⟩
 .intro b o hb;refine(I.hok b o hb).stay (λc u hc eu=>toB c u eu λhz=>?_) (λ_ z=>z) λ_ _ z=>z;have n:=I.abD c hz;rcases hc with rfl|hc
  .rw[hb]at n;cases n
  .rw[hc]at n;cases n
 .exact toB b o (I.base.keep b o eb nb hb (by simp[pG])) (jB I hst rfl eb hb)
 .obtain⟨o',e'⟩:=I.base.there b o eb (by simp[pG]);exact⟨o',toB b o' e' (jB I hst rfl eb hb)⟩
 .exact k1.stays b o (toB b o (I.base.keep b o eb nb hb (by simp[pG])) (jB I hst rfl eb hb))
 .obtain⟨sl,e1⟩:=I.base.slot b o eb nb hb (by simp[pG]);obtain⟨sl2,e2⟩:=up b _ e1 (hfd b hb _ e1);exact⟨sl2,e2⟩
 .obtain⟨o',e'⟩:=I.base.there b o eb (by simp[pG]);by_cases hb:b∈frs outer
  .obtain⟨sl,e1⟩:=up b o' e' (hfd b hb o' e');exact⟨_,e1⟩
  .exact⟨o',k1.stays b o' (toB b o' e' (jB I hst rfl eb hb))⟩
theorem auS(hE:∀C H',E' C bh H'->E C bh H')(I:Inv (cx1 qt P w K mg base N qual scope f cd A outer s₀ H₀ E) pins σ H s)
  (c:jZ P w (cx1 qt P w K mg base N qual scope f cd A outer s₀ H₀ E).stack H s E' e s'):(cx1 qt P w K mg base N qual scope f cd A outer s₀ H₀ E).xe e s':=by
 obtain⟨x,C,H',B,rfl,fl,hok,cov,aHR,un,os,bare,q⟩:=c;have hst:(cx1 qt P w K mg base N qual scope f cd A outer s₀ H₀ E).stack=(cx1 qt P w K mg base N qual scope f cd A outer s₀ H₀ E).env::outer:=rfl;refine anN (B:=B) I.ok.frames rfl fl λh2 k1 k4=>?_
 have hfs:∀b∈frs outer,b∈frs (cx1 qt P w K mg base N qual scope f cd A outer s₀ H₀ E).stack:=λb hb=>by
  obtain⟨env,he,hf⟩:=ajL hb;exact abV (jq _ he) hf
 have hfd:∀b∈frs outer,∀o,s'.heap.get? b=aj o->∀vs,o.data≠.fields vs:=λb hb o e=>by
  obtain⟨_,o',ho',hd⟩:=fl.aL1.mem (hfs b hb);rw[e]at ho';cases ho';exact hd
 refine⟨x,C,H',B,rfl,k1,hok,λb o eb nb hb=>?_,λb o eb hb=>?_,⟨λb o eb nb hb _=>?_,λb o eb nb hb _=>?_,λb o eb nb hx=>?_,λb o eb hx=>?_,λb xs z=>un.tups b xs (I.base.tups b xs z),λb o u z=>un.jK b o u (I.base.jK b o u z),λb ps z=>?_⟩,os.trans I.os,bare,hE _ _ q⟩
 .exact cov b o (I.base.keep b o eb nb hb (by simp[pG])) (I.base.free b o eb nb (by simp[pG])) (jB I hst rfl eb hb)
 .obtain⟨o',e'⟩:=I.base.there b o eb (by simp[pG]);exact aHR b o' e' (jB I hst rfl eb hb)
 .exact k1.stays b o (cov b o (I.base.keep b o eb nb hb (by simp[pG])) (I.base.free b o eb nb (by simp[pG])) (jB I hst rfl eb hb))
 .obtain⟨sl,e1⟩:=I.base.slot b o eb nb hb (by simp[pG]);obtain⟨sl2,e2⟩:=un.slot b _ e1 (I.base.free b o eb nb (by simp[pG])) (hfs b hb) (by simp);obtain⟨sl3,e3⟩:=k4 b _ e2 (hfd b hb _ e2);exact⟨sl3,e3⟩
 .obtain⟨o',e'⟩:=I.base.there b o eb (by simp[pG]);exact un.free b o' e' (I.base.free b o eb nb (by simp[pG])) (by simp)
 .obtain⟨o',e'⟩:=I.base.there b o eb (by simp[pG]);by_cases hb:b∈frs outer
  .obtain⟨o2,e2⟩:=un.there b o' e' (by simp);obtain⟨sl,e3⟩:=k4 b o2 e2 (hfd b hb o2 e2);exact⟨_,e3⟩
  .obtain⟨o2,e2⟩:=aHR b o' e' (jB I hst rfl eb hb);exact⟨o2,k1.stays b o2 e2⟩
 .obtain⟨m1,e1⟩:=I.base.sV b ps z;obtain⟨m2,e2⟩:=un.sV b _ e1;exact⟨m1++m2,by rw[e2,Array.append_assoc]⟩
end
noncomputable def yO(K:Fg)(EX:aX):XK:=λC _ H'=>∃c G',C=.ref c/\HR K H' G'/\EX c G'
structure Cat(X:Cx)(EX:aO->aX):Prop where
 aa1:∀pins σ H s ρ e s',Inv X pins σ H s->SR X.K H ρ σ->jZ X.prog X.w X.stack H s (yO X.K (EX ρ)) e s'->X.xe e s'
structure Thr(X:Cx)(EX:aO->aX):Prop where
 made:∀pins σ H s ρ C e us h',Inv X pins σ H s->SR X.K H ρ σ->a2v s.heap h' e (.ref C) us->yO X.K (EX ρ) (.ref C) bh H->X.xe (.ref e) {s with heap:=h' }
section
variable{qt:Bool}{w:jf}{K:Fg}{mg:Str->Option aq}{base:jj}{N:List Str}{A:jr}{outer:List Env}{s₀:dh}{H₀:Hp}
theorem ae4(h:UpX K EX E)(q:yO K EX C bh H'):E C bh H':=by
 obtain⟨c,G',rfl,g,q⟩:=q;exact h c H' G' g q
theorem aMD(h:UpX K EX E):Cat (cx1 qt P w K mg base N qual scope f cd A outer s₀ H₀ E) (λ_=>EX) :=
 ⟨λpins σ H s ρ e s' I _ c=>auS (E':=yO K EX) (λC H' q=>ae4 h q) I c⟩
theorem aME(h:UpX K EX E):Thr (cx1 qt P w K mg base N qual scope f cd A outer s₀ H₀ E) (λ_=>EX) :=
 ⟨λpins σ H s ρ C e us h' I _ hm q=>auR I hm (ae4 h q)⟩
theorem own1:a1y (fj P w) (cx1 qt P w K mg base N qual scope f cd A outer s₀ H₀ E).A (cx1 qt P w K mg base N qual scope f cd A outer s₀ H₀ E).env (cx1 qt P w K mg base N qual scope f cd A outer s₀ H₀ E).xe:=PassesOwn.leaving
end
section
variable{X:Cx}{k:Nat}{sp:pH}{EX:aO->aX}{x:Str}{p pos:Pos}{t:sS}
noncomputable def bB(sp:pH)(EX:aO->aX)(t:sS):bV:=λρ G R=>t ρ G λds G1=>sp ds G1 R (EX ρ)
set_option tactic.hygienic true in
theorem ajM{Q Q':VK}(F:cC qt X.prog X.w X.K X.mg X.base (jZ X.prog X.w) k f fd ps (cO X.K sp))(hr:gG qt k X.A)(hb:Binds X.K fd ps [])
  (hx:∀e s',jZ X.prog X.w X.stack H s E e s'->X.xe e s')
  (I:Inv X pins σ H s)(r:Vals vs us)(h:cO X.K sp vs H Q E)(hQ:∀v H',Ts H H'->Q v H'->Q' v H'):dg (fj X.prog X.w) X.A (call (.ref f) us) (EP X pins σ Q') X.xe s:=by
 have hl:(us++[]).length=ps.length:=by rw[a0g,←r.length];exact F.len _ _ _ _ h
 refine wpAny_call (codeAny_mono (F.run X.A X.stack s H ⟨us,[]⟩ (us++[]) vs Q E hr I.env0 (hb s us I.kIn hl) (by rw[a0g];exact r) h) λr s' hq=>?_);cases r with
 |error e=>exact hx e s' hq
 |ok fl =>
  cases fl with
  |ret u =>
   obtain⟨v,H',os,bare,un,hok,r,q⟩:=hq;exact⟨v,H',I.call' (ch:=[]) os un hok bare (λb z=>absurd z (by simp)),r,hQ v H' ⟨un.tups,un.jK⟩ q⟩
  |next=>exact False.elim hq
  |brk=>exact False.elim hq
  |cont=>exact False.elim hq
theorem auT(F:cC qt X.prog X.w X.K X.mg X.base (jZ X.prog X.w) k f fd ps (cO X.K sp))(hr:gG qt k X.A)(hg:Gl X x)(hm:X.mg x=aj (.ref f))(hk:uf X.K (.ref f)=ak)(hb:Binds X.K fd ps [])(hx:Cat X EX)
  (ha:PA3 X (e::es) t)(hdb:(x==("__debug__":Str))=ao:=by decide)(he:jg (e::es) X.env=(ao,eval e X.env)::jg es X.env:=by rfl)(hpl:(rm pos (jg es X.env)).any (·.1)=ao:=by rfl) :
  bY X (.Call (.Name x p) (e::es) [] pos) (bB sp EX t):=by
 intro pins s σ H Q I h;obtain⟨ρ,G,R,sr,g,q,kk⟩:=h;refine wg (pJ I hg hm ?_ hdb);refine a3a (h₀:=X.base) I.ok.mod.kin hk (cR (ha pos pins s σ H (λvs H1=>Ts H H1/\∃ds G1,bW X.K H1 ds vs/\HR X.K H1 G1/\sp ds G1 R (EX ρ)) I ⟨ρ,G,_,sr,g,q,λvs H1 ds G1 t1 r1 g1 q1=>⟨t1,ds,G1,r1,g1,q1⟩⟩) λus s1 ⟨vs,H1,I1,r,t1,ds,G1,r1,g1,q1⟩=>⟨I1.kIn,?_⟩) he hpl;refine ajM (E:=yO X.K (EX ρ)) F hr hb (λe s' c=>hx.aa1 pins σ H1 s1 ρ e s' I1 (sr.mono t1) c) I1 r (Q:=λv H'=>∃d G',RD X.K H' d v/\HR X.K H' G'/\R d G') ⟨ds,G1,R,EX ρ,r1,g1,q1,λv H' d G' r2 g2 q2=>⟨d,G',r2,g2,q2⟩,λC H' G' g' q'=>⟨C,G',rfl,g',q'⟩⟩ (by rintro v H' t2 ⟨d,G',r2,g2,q2⟩;exact kk v H' d G' (t1.trans t2) r2 g2 q2)
theorem aBK{qt:Bool}{P:jo}{w:jf}{K:Fg}{base:jj}{qual:Str}{f:bw}{fd:kh}{N ps:List Str}{k:Nat}{tb:aX->bK}(F:Fun K x qual st f fd)(S:bA N ps (aV st))
  (hbody:∀(cdv:aq)(A:jr)(outer:List Env)(s:dh)(H:Hp)(E:XK)(EX:aX),gG qt k (A.deeper (envOfC qual (aV st) s.heap.objs.size f cdv))->UpX K EX E ->
   a4R (cx1 qt P w K mg base N qual (aV st) f cdv A outer s H E) (bT st) (tb EX)):cC qt P w K mg base (jZ P w) (k+1) f fd ps (cO K (aMC N.length ps.length tb)):=by
 obtain⟨oc,od,dV,kV,doc,pm,an,cdv,ct,osl,rfl,lk,hcd⟩:=F.ex;have hpl:ps.length<=N.length:=by have:=congrArg a1c S.pre;rw[a1q]at this;omega
 refine ayH lk hcd S (λvs H Q E h=>?_) λA outer s H vs Q E hr hsp=>?_
 .obtain⟨ds,G,R,EX,r,g,⟨hl,q⟩,_⟩:=h;rw[←r.length,hl]
 .obtain⟨ds,G,R,EX,r,g,⟨hl,q⟩,kk,hE⟩:=hsp;refine⟨_,hbody cdv A outer s H E EX hr hE,abR N.length ds,G,_,?_,g,q,⟨λρ G' σ' H' s1 g1 q1=>kk .non H' .non G' .non g1 q1,λd G' v H' r1 g1 q1=>kk v H' d G' r1 g1 q1,λ_ _ _ _ _ _ z=>z.elim,λ_ _ _ _ _ _ z=>z.elim⟩⟩;unfold abR start;rw[r.length];exact SR.entry r
end
section
variable{X:Cx}{C:bw}{bmB:List aq}{B Bn newId nid initId inN:String}{EX:aO->aX}{x:Str}{pos:Pos}{t:sS}
set_option tactic.hygienic true in
theorem a5I{K:Fg}{h:jj}(XK:K.In h)(q:yg K C bmB newId=ak):∃bm N nm q bs hdct sn sub ab col dd k0 k1 k2 k3 k5 mN,h.get? C=aj (excClassObj nm q C N bs bm hdct sn sub ab col dd k0 k1 k2 k3 k5 newId)/\h.Ns N mN/\mN "__init__"=bh/\OwnTail h bmB bm:=by
 unfold yg at q;split at q
 .rename_i dd cd sl ho;split at q
  .rename_i C' bm k0 k1 k2 k3 n k5 hm hs;simp only[bx,beq_iff_eq,iu]at q;obtain⟨⟨⟨⟨⟨rfl,rfl⟩,hdel⟩,ht⟩,hok⟩,hni⟩:=q;obtain⟨nm,bs,mro,ns,qn,hd,sn,sub,ab,col,del⟩:=cd;dsimp only at hm hdel hok hni;subst hm hdel
   have hsl:sl=#[k0,k1,k2,k3,aj (.builtin n),k5]:=by
    obtain⟨l⟩:=sl;simp only at hs;rw[hs]
   subst hsl;exact⟨bm,ns,nm,qn,bs,hd,sn,sub,ab,col,dd,k0,k1,k2,k3,k5,_,XK _ _ ho,.of_isNs (PySem.W.isNs_of_in XK hok),PySem.W.nsMap_none_of_in XK hok hni,PySem.W.tail_of_in XK ht⟩
  .cases q
 .cases q
noncomputable def m6(EX:aO->aX)(C:bw)(t:sS):bK:=λ_ ρ G=>t ρ G λds G1=>ds.length<=cu/\EX ρ C G1
theorem auU(hc:X.calm=ak)(Fn:a0s Bn newId inN bmN)(hBn:bmB.contains (.type Bn)=ak)(FB:a0s B nid initId bmB)(hg:Gl X x)(hm:X.mg x=aj (.ref C))(hq:yg X.K C bmB newId=ak)(hT:Thr X EX)
  (ha:PA3 X (e::es) t)(hd:(x==("__debug__":Str))=ao:=by decide)
  (he:jg (e::es) X.env=(ao,eval e X.env)::jg es X.env:=by rfl)(hplain:(rm cpos (jg es X.env)).any (·.1)=ao:=by rfl) :
  PS3 X (.Raise (aj (.Call (.Name x np) (e::es) [] cpos)) bh pos) (m6 EX C t):=by
 intro pins s σ H F I h;obtain⟨ρ,G,E3,sr,g,q,dd⟩:=h;obtain⟨tl,N,nm,q',bs,hdct,sn,sub,ab,col,dd',k0,k1,k2,k3,k5,mN,hC,hN,hni,T⟩:=a5I I.mod.kin hq
 refine wpAny_Raise_call_subU (C:=C) (nm:=nm) (q:=q') (N:=N) (bs:=bs) (bm:=tl) (hdct:=hdct) (sn:=sn) (sub:=sub) (ab:=ab) (col:=col) (dd:=dd') (k0:=k0) (k1:=k1) (k2:=k2) (k3:=k3) (k5:=k5)
  Fn hBn FB (mN:=mN) (T.hasType FB.hasBase) (I.ok.hd hc) (by rw[he];show(ao||(rm cpos (jg es X.env)).any (·.1))=ao;rw[hplain];rfl) hni (pJ I hg hm ⟨rfl,?_⟩ hd)
 have hA:=ha cpos pins s σ H (λvs H1=>Ts H H1/\∃ds G1,bW X.K H1 ds vs/\HR X.K H1 G1/\ds.length<=cu/\EX ρ C G1) I ⟨ρ,G,_,sr,g,q,λvs H1 ds G1 t1 r1 g1 q1=>⟨t1,ds,G1,r1,g1,q1.1,q1.2⟩⟩;rw[he]at hA ⊢;refine Calls.evalArgs_plain (cR hA ?_);rintro us s2 ⟨vs,H2,I2,r2,t1,ds,G1,r1,g1,hl,q1⟩;exact⟨rfl,by rw[←r2.length,←r1.length];exact hl,I2.bk _ _ hC,hN.keeps I2.bk,T.keeps I2.bk,λh' e' hm'=>hT.made pins σ H2 s2 ρ C e' us h' I2 (sr.mono t1) hm' ⟨C,G1,rfl,g1,q1⟩⟩
end
end
section
noncomputable def tG:aO->Nat->aO
 |[],_=>[]
 |_::r,0=>bh::r
 |x::r,n+1=>x::tG r n
noncomputable def zF:St->Nat->St
 |[],_=>[]
 |_::r,0=>bh::r
 |x::r,n+1=>x::zF r n
theorem SR.clr{K:Fg}:∀{ρ:aO}{σ:St}(i:Nat),SR K H ρ σ->SR K H (tG ρ i) (zF σ i)
 |_,_,_,.nil=>.nil
 |_,_,0,.none r=>.none r
 |_,_,0,.some _ r=>.none r
 |_,_,i+1,.none r=>.none (SR.clr i r)
 |_,_,i+1,.some h r=>.some h (SR.clr i r)
theorem a6H:∀(σ:St)(i:Nat),(zF σ i).length=σ.length
 |[],_=>rfl
 |_::_,0=>rfl
 |_::r,i+1=>congrArg (·+1) (a6H r i)
theorem a6I:∀(σ:St)(i j:Nat)(v:V),(zF σ i)[j]?=aj (aj v)->j≠i/\σ[j]?=aj (aj v)
 |[],_,_,_,h=>by simp[zF]at h
 |_::_,0,0,_,h=>by simp[zF]at h
 |_::_,0,j+1,_,h=>⟨by omega,by simpa[zF]using h⟩
 |_::_,i+1,0,_,h=>⟨by omega,by simpa[zF]using h⟩
 |_::r,i+1,j+1,v,h=>by
  obtain⟨a,b⟩:=a6I r i j v (by simpa[zF]using h);exact⟨by omega,by simpa using b⟩
section
variable{X:Cx}
noncomputable def xeT(X:Cx)(EX:aO->aX):aq->dh->Prop:=λe s'=>∃pins σ H s ρ,Inv X pins σ H s/\SR X.K H ρ σ/\jZ X.prog X.w X.stack H s (yO X.K (EX ρ)) e s'
noncomputable abbrev aHT(X:Cx)(pn:List (bw×Obj))(EX:aO->aX):Cx:={X with pn:=X.pn++pn,xe:=xeT {X with pn:=X.pn++pn} EX}
theorem aMF(pn:List (bw×Obj))(EX:aO->aX):Cat (aHT X pn EX) EX:=⟨λpins σ H s ρ e s' I sr c =>
 ⟨pins,σ,H,s,ρ,⟨⟨I.ok.mod,I.ok.kind,I.ok.glob,I.ok.blt,I.ok.above,I.ok.inj,I.ok.has,I.ok.cab,I.ok.hd,I.ok.frames,I.ok.stk,I.ok.exf,I.ok.bs,I.ok.bsz,I.ok.abC,I.ok.adK,I.ok.uT,I.ok.frf⟩,I.os,I.bare,I.base,I.loc,I.cell,I.free,I.nF,I.pin,I.hok,I.len,I.hnd,I.tup⟩,sr,c⟩⟩
theorem aoQ{w:jf}{B:jj}{x:bw}(hok:xQ P w H B)(n:B.get? x=bh):H x=bh:=by
 cases e0:H x with
 |none=>rfl
 |some o =>
  have lt:=(hok x o e0)
  obtain⟨o',ho'⟩:∃o',B.get? x=aj o':=by
   cases o with
   |lst xs=>obtain⟨_,_,_,_,e⟩:=lt;exact⟨_,e⟩
   |tup xs=>obtain⟨_,_,_,o,e,_⟩:=lt;exact⟨_,e⟩
   |dK kvs=>obtain⟨_,_,_,_,o,_,_,e,_⟩:=lt;exact⟨_,e⟩
   |dT kvs=>obtain⟨_,_,_,_,o,_,_,e,_⟩:=lt;exact⟨_,e⟩
   |set S n=>obtain⟨o,_,_,_,e,_⟩:=lt;exact⟨_,e⟩
   |ins C dx fs=>obtain⟨_,_,_,e,_⟩:=lt;exact⟨_,e⟩
   |own y=>obtain⟨_,e⟩:=lt;exact⟨_,e⟩
   |xd fs=>obtain⟨_,⟨_,_,_,e,_⟩,_⟩:=lt;exact⟨_,e⟩
   |rng lo hi=>obtain⟨_,_,_,e⟩:=lt;exact⟨_,e⟩
   |gF ob u=>obtain⟨e,_⟩:=lt;exact⟨_,e⟩
   |tbl ps=>exact⟨_,(show B.get? x=aj _ from lt)⟩
   |met f y=>exact⟨_,(show B.get? x=aj _ from lt)⟩
   |ext φ=>obtain⟨_,⟨_,e⟩,_⟩:=lt;exact⟨_,e⟩
  rw[n]at ho';cases ho'
end
end
variable{A:jr}
section
section
variable{X:Cx}{a b:jk}{pos:Pos}
noncomputable def ajN(t:bV):bV:=λρ G R=>t ρ G λx G1=>match x with
 |.int i=>R (.int (-i)) G1
 |_=>False
theorem aHU(ha:bY X a ta):bY X (.UnaryOp .USub a pos) (ajN ta):=PE.imp (aGC aAO ha) λσ H Q h=>by
 obtain⟨ρ,G,R,s,g,t,k⟩:=h;refine⟨ρ,G,_,s,g,t,λv H1 x G1 t1 r g1 q=>?_⟩;cases r with
 |int i=>exact⟨i,rfl,k _ H1 _ G1 t1 (.int _) g1 q⟩
 |_=>exact False.elim q
noncomputable def aQ:Nat->D->Bool
 |0,.tup _=>ao
 |n+1,.tup xs=>xs.all (aQ n)
 |_,.ref _=>ao
 |_,.ty _=>ao
 |_,_=>ak
mutual
noncomputable def eqP:D->D->Bool
 |.non,.non=>ak
 |.bl a,.bl b=>a==b
 |.bl a,.int b=>(if a then 1 else 0)==b
 |.int a,.bl b=>a==(if b then 1 else 0)
 |.int a,.int b=>a==b
 |.str a,.str b=>a==b
 |.tup xs,.tup ys=>o8 xs ys
 |_,_=>ao
noncomputable def o8:List D->List D->Bool
 |[],[]=>ak
 |x::xs,y::ys=>eqP x y&&o8 xs ys
 |_,_=>ao
end
noncomputable def tH(xs ys:List D)(j:Nat):Bool:=match xs[j]?,ys[j]? with
 |some a,aj b=>eqP a b
 |_,_=>ao
theorem vB(n:Nat)(e:Nat->Bool):(jw (n+1)).all e=(e 0&&(jw n).all λj=>e (j+1)):=by
 rw[List.range_succ_eq_map,yt,List.all_map];rfl
theorem lB:∀(xs ys:List D),o8 xs ys=((jw (min xs.length ys.length)).all (tH xs ys)&&xs.length==ys.length)
 |[],[]=>rfl
 |[],y::ys=>by simp[o8]
 |x::xs,[]=>by simp[o8]
 |x::xs,y::ys=>by
  have ih:=lB xs ys;have e:min (x::xs).length (y::ys).length=min xs.length ys.length+1:=by simp only[lg];omega
  rw[o8,ih,e,vB];have e0:tH (x::xs) (y::ys) 0=eqP x y:=rfl
  have e1:(λj=>tH (x::xs) (y::ys) (j+1))=tH xs ys:=by
   funext j;simp[tH]
  have e2:((x::xs).length==(y::ys).length)=(xs.length==ys.length):=by
   simp only[lg];by_cases h:xs.length=ys.length
   .simp[h]
   .have h':¬ (xs.length+1=ys.length+1):=by omega
    simp[h,h']
  rw[e0,e1,e2,Bool.and_assoc]
theorem ae5{xs ys:List D}(h:(xs.length !=ys.length)=ak):o8 xs ys=ao:=by
 rw[lB];have:(xs.length==ys.length)=ao:=by simpa using h
 rw[this,a2y]
theorem aa2{xs ys:List D}(h:xs.length=ys.length):o8 xs ys=(jw xs.length).all (tH xs ys):=by
 rw[lB,h];simp
theorem bW.aHV{K:Fg}(ih:∀{x y:D}{v:V},aQ n x=ak->aQ n y=ak->RD K H x v->RD K H y v->x=y):∀{xs ys:List D},(∀x∈xs,aQ n x=ak)->(∀y∈ys,aQ n y=ak)->bW K H xs vs->bW K H ys vs->xs=ys:=by
 induction vs with
 |nil=>intro xs ys _ _ h1 h2;cases h1;cases h2;rfl
 |cons v vs jh =>
  intro xs ys hx hy h1 h2;cases h1 with
  |cons a r =>
  cases h2 with
  |cons b t=>rw[ih (hx _ (su ..)) (hy _ (su ..)) a b,jh (λx m=>hx x (jq _ m)) (λy m=>hy y (jq _ m)) r t]
theorem RD.inj(I:Inv X pins σ H s):∀{x y:D}{v:V},aQ n x=ak->aQ n y=ak->RD X.K H x v->RD X.K H y v->x=y:=by
 induction n with
 |zero=>intro x y v hx hy h1 h2;cases h1<;>cases h2<;>first|rfl|cases hx|cases hy
 |succ n ih =>
  intro x y v hx hy h1 h2;cases h1 with
  |tup s1 r1 _ =>
   cases h2 with
   |tup s2 r2 _ =>
    have e:=I.xA s1 s2;subst e;rw[bW.aHV ih (by simpa[aQ]using hx) (by simpa[aQ]using hy) r1 r2]
   |ref=>cases hy
  |ref=>cases hx
  |_=>cases h2;rfl
mutual
theorem rE:∀{n:Nat}{x:D},aQ n x=ak->eqP x x=ak
 |_,.non,_=>rfl
 |_,.bl b,_=>by simp[eqP]
 |_,.int b,_=>by simp[eqP]
 |_,.str b,_=>by simp[eqP]
 |n,.ref _,h=>by cases n<;>simp[aQ]at h
 |n,.ty _,h=>by cases n<;>simp[aQ]at h
 |0,.tup _,h=>by simp[aQ]at h
 |n+1,.tup xs,h=>by rw[eqP];exact aa3 (n:=n) (by simpa[aQ]using h)
theorem aa3:∀{n:Nat}{xs:List D},(∀x∈xs,aQ n x=ak)->o8 xs xs=ak
 |_,[],_=>rfl
 |n,x::xs,h=>by rw[o8,rE (h x (by simp)),aa3 λy m=>h y (by simp[m])];rfl
end
theorem Vals.ajO{K:Fg}(r:bW K H ds xs)(v:Vals xs us){j:Nat}(e:us[j]?=aj u):∃d x,ds[j]?=aj d/\RD K H d x/\RelV x u:=by
 have hj:j<us.length:=(ji.mp e).1;have hj':j<xs.length:=by rw[v.length];exact hj
 have ex:xs[j]?=aj xs[j]:=gV hj';obtain⟨u',e1,r1⟩:=v.get ex;rw[e]at e1;cases e1;obtain⟨d,e2,r2⟩:=r.am9 ex;exact⟨d,_,e2,r2,r1⟩
theorem vC{K:Fg}{n:Nat}{us ws:List aq}(rx:bW K H xs vx)(ry:bW K H ys vy)(vx':Vals vx us)(vy':Vals vy ws)
  (ih:∀x∈xs,∀y∈ys,∀(v w:V)(u t:aq),RD K H x v->RD K H y w->RelV v u->RelV w t->SeqAt.EqAt A s u t (eqP x y)) :
  ∀j (h1:j<us.toArray.size) (h2:j<ws.toArray.size),SeqAt.EqAt A s us.toArray[j] ws.toArray[j] (tH xs ys j):=by
 intro j h1 h2;have e1:us[j]?=aj us.toArray[j]:=by simp[gV (show j<us.length by simpa using h1)]
 have e2:ws[j]?=aj ws.toArray[j]:=by simp[gV (show j<ws.length by simpa using h2)]
 obtain⟨d,x,f1,f2,f3⟩:=Vals.ajO rx vx' e1;obtain⟨d',y,g1,g2,g3⟩:=Vals.ajO ry vy' e2;have e:tH xs ys j=eqP d d':=by simp[tH,f1,g1]
 rw[e];exact ih d (jx f1) d' (jx g1) x y _ _ f2 g2 f3 g3
noncomputable def scD:D->Bool
 |.non=>ak
 |.bl _=>ak
 |.int _=>ak
 |.str _=>ak
 |_=>ao
theorem auV{K:Fg}{x:D}{v:aq}(hx:scD x=ak)(hy:scD y=ak)(rx:RD K H x vx)(ry:RD K H y vy)(ru:RelV vx u)(rv:RelV vy v):SeqAt.EqAt A s u v (eqP x y):=by
 have fx:uF vx=ak:=by cases rx<;>first|rfl|cases hx
 have fy:uF vy=ak:=by cases ry<;>first|rfl|cases hy
 have e:eqV vx vy=eqP x y:=by cases rx<;>cases ry<;>first|(simp[eqV,eqP];done)|cases hx|cases hy
 rw[←e];exact a2B ru rv fx fy
theorem vD(h:A.units+(n+1)<jl):A.in1.units+n<jl:=by
 show A.units+1+n<jl;omega
theorem zG(I:Inv X pins σ H s):∀(n:Nat)(A:jr)(x y:D)(vx vy:V)(u v:aq),A.units+n<jl->aQ n x=ak->aQ n y=ak->RD X.K H x vx->RD X.K H y vy->RelV vx u->RelV vy v->SeqAt.EqAt A s u v (eqP x y):=by
 intro n
 induction n with
 |zero =>
  intro A x y vx vy u v hu hx hy rx ry ru rv;have sx:scD x=ak:=by cases x<;>first|rfl|(simp[aQ]at hx)
  have sy:scD y=ak:=by cases y<;>first|rfl|(simp[aQ]at hy)
  exact auV sx sy rx ry ru rv
 |succ n ih =>
  intro A x y vx vy u v hu hx hy rx ry ru rv;have hu0:A.units<jl:=by omega
  cases rx with
  |@tup ax xs ds hax rax eax =>
   cases ru;obtain⟨its,vv,px,_⟩:=I.tuple hax;cases ry with
   |@tup ay ys es hay ray eay =>
    cases rv;obtain⟨jts,ww,py,_⟩:=I.tuple hay;by_cases hab:ax=ay
    .subst hab;have e:=RD.inj I (n:=n+1) hx hy (.tup hax rax eax) (.tup hay ray eay);rw[e,rE hy];exact SeqAt.EqAt.same _
    .refine SeqAt.EqAt.of_refs hab ?_
     have z:=SeqAt.RcAt.tuples (e:=tH ds es) (show s.heap.IsTuple ax its.toArray from px) (show s.heap.IsTuple ay jts.toArray from py) hu0 (vC (n:=n) rax ray vv ww λx mx y my v w u t r1 r2 r3 r4 =>
           ih A.in1 x y v w u t (vD hu) (jy.mp (by simpa[aQ]using hx) x mx) (jy.mp (by simpa[aQ]using hy) y my) r1 r2 r3 r4)
     have e:((jw (min its.toArray.size jts.toArray.size)).all (tH ds es)&&its.toArray.size==jts.toArray.size)=eqP (.tup ds) (.tup es):=by
           rw[eqP,lB,gk,gk,←vv.length,←ww.length,←rax.length,←ray.length]
     rw[e]at z;exact z
   |non=>cases rv;exact SeqAt.EqAt.tuple_none (show s.heap.IsTuple ax its.toArray from px) hu0
   |bl b=>cases rv;exact SeqAt.EqAt.tuple_bool b (show s.heap.IsTuple ax its.toArray from px) hu0
   |int i=>obtain⟨t,rfl⟩:=rv;exact SeqAt.EqAt.tuple_int i t (show s.heap.IsTuple ax its.toArray from px) hu0
   |str z=>obtain⟨t,rfl⟩:=rv;exact SeqAt.EqAt.tuple_str z t (show s.heap.IsTuple ax its.toArray from px) hu0
   |ref _=>simp[aQ]at hy
   |ty _=>simp[aQ]at hy
  |ref _=>simp[aQ]at hx
  |ty _=>simp[aQ]at hx
  |non =>
   cases ry with
   |@tup ay ys es hay ray =>
    cases rv;cases ru;obtain⟨jts,ww,py,_⟩:=I.tuple hay;exact SeqAt.EqAt.none_tuple (show s.heap.IsTuple ay jts.toArray from py) hu0
   |ref _=>simp[aQ]at hy
   |ty _=>simp[aQ]at hy
   |_=>exact a2B ru rv rfl rfl
  |bl b =>
   cases ry with
   |@tup ay ys es hay ray =>
    cases rv;cases ru;obtain⟨jts,ww,py,_⟩:=I.tuple hay;exact SeqAt.EqAt.bool_tuple b (show s.heap.IsTuple ay jts.toArray from py) hu0
   |ref _=>simp[aQ]at hy
   |ty _=>simp[aQ]at hy
   |_=>exact a2B ru rv rfl rfl
  |int i =>
   cases ry with
   |@tup ay ys es hay ray =>
    cases rv;obtain⟨t,rfl⟩:=ru;obtain⟨jts,ww,py,_⟩:=I.tuple hay;exact SeqAt.EqAt.int_tuple i t (show s.heap.IsTuple ay jts.toArray from py) hu0
   |ref _=>simp[aQ]at hy
   |ty _=>simp[aQ]at hy
   |_=>exact a2B ru rv rfl rfl
  |str z =>
   cases ry with
   |@tup ay ys es hay ray =>
    cases rv;obtain⟨t,rfl⟩:=ru;obtain⟨jts,ww,py,_⟩:=I.tuple hay;exact SeqAt.EqAt.str_tuple z t (show s.heap.IsTuple ay jts.toArray from py) hu0
   |ref _=>simp[aQ]at hy
   |ty _=>simp[aQ]at hy
   |_=>exact a2B ru rv rfl rfl
end
end
variable{a1:bw}
section
section
variable{X:Cx}
theorem aMJ(I:Inv X pins σ H s)(n:Nat)(A:jr)(x y:D)(vx vy:V)(u v:aq)(hu:A.units+(n+1)<jl)(hx:aQ (n+1) x=ak)(hy:aQ (n+1) y=ak)(rx:RD X.K H x vx)(ry:RD X.K H y vy)(ru:RelV vx u)(rv:RelV vy v):SeqAt.RcAt A s u v (eqP x y):=by
 have hu0:A.units<jl:=by omega
 cases rx with
 |non =>
  cases ru;cases ry with
  |non =>
   cases rv
   first|exact SeqAt.RcAt.none_none|(simp only[eqP];exact SeqAt.RcAt.none_none)
  |bl b2 =>
   cases rv
   first|exact SeqAt.RcAt.none_bool b2|(simp only[eqP];exact SeqAt.RcAt.none_bool b2)
  |int i2 =>
   obtain⟨t2,rfl⟩:=rv
   first|exact SeqAt.RcAt.none_int i2 t2|(simp only[eqP];exact SeqAt.RcAt.none_int i2 t2)
  |str z2 =>
   obtain⟨t2,rfl⟩:=rv
   first|exact SeqAt.RcAt.none_str z2 t2|(simp only[eqP];exact SeqAt.RcAt.none_str z2 t2)
  |@tup a2 xs2 pN h2 r2 =>
   cases rv;obtain⟨its2,vv2,p2,_⟩:=I.tuple h2
   first|exact SeqAt.RcAt.none_tuple (show s.heap.IsTuple a2 its2.toArray from p2) hu0|(simp only[eqP];exact SeqAt.RcAt.none_tuple (show s.heap.IsTuple a2 its2.toArray from p2) hu0)
  |ref _=>simp[aQ]at hy
  |ty _=>simp[aQ]at hy
 |bl b1 =>
  cases ru;cases ry with
  |non =>
   cases rv
   first|exact SeqAt.RcAt.bool_none b1|(simp only[eqP];exact SeqAt.RcAt.bool_none b1)
  |bl b2 =>
   cases rv
   first|exact SeqAt.RcAt.bool_bool b1 b2|(simp only[eqP];exact SeqAt.RcAt.bool_bool b1 b2)
  |int i2 =>
   obtain⟨t2,rfl⟩:=rv
   first|exact SeqAt.RcAt.bool_int b1 i2 t2|(simp only[eqP];exact SeqAt.RcAt.bool_int b1 i2 t2)
  |str z2 =>
   obtain⟨t2,rfl⟩:=rv
   first|exact SeqAt.RcAt.bool_str b1 z2 t2|(simp only[eqP];exact SeqAt.RcAt.bool_str b1 z2 t2)
  |@tup a2 xs2 pN h2 r2 =>
   cases rv;obtain⟨its2,vv2,p2,_⟩:=I.tuple h2
   first|exact SeqAt.RcAt.bool_tuple b1 (show s.heap.IsTuple a2 its2.toArray from p2) hu0|(simp only[eqP];exact SeqAt.RcAt.bool_tuple b1 (show s.heap.IsTuple a2 its2.toArray from p2) hu0)
  |ref _=>simp[aQ]at hy
  |ty _=>simp[aQ]at hy
 |int i1 =>
  obtain⟨t1,rfl⟩:=ru;cases ry with
  |non =>
   cases rv
   first|exact SeqAt.RcAt.int_none i1 t1|(simp only[eqP];exact SeqAt.RcAt.int_none i1 t1)
  |bl b2 =>
   cases rv
   first|exact SeqAt.RcAt.int_bool i1 t1 b2|(simp only[eqP];exact SeqAt.RcAt.int_bool i1 t1 b2)
  |int i2 =>
   obtain⟨t2,rfl⟩:=rv
   first|exact SeqAt.RcAt.int_int i1 t1 i2 t2|(simp only[eqP];exact SeqAt.RcAt.int_int i1 t1 i2 t2)
  |str z2 =>
   obtain⟨t2,rfl⟩:=rv
   first|exact SeqAt.RcAt.int_str i1 t1 z2 t2|(simp only[eqP];exact SeqAt.RcAt.int_str i1 t1 z2 t2)
  |@tup a2 xs2 pN h2 r2 =>
   cases rv;obtain⟨its2,vv2,p2,_⟩:=I.tuple h2
   first|exact SeqAt.RcAt.int_tuple i1 t1 (show s.heap.IsTuple a2 its2.toArray from p2) hu0|(simp only[eqP];exact SeqAt.RcAt.int_tuple i1 t1 (show s.heap.IsTuple a2 its2.toArray from p2) hu0)
  |ref _=>simp[aQ]at hy
  |ty _=>simp[aQ]at hy
 |str z1 =>
  obtain⟨t1,rfl⟩:=ru;cases ry with
  |non =>
   cases rv
   first|exact SeqAt.RcAt.str_none z1 t1|(simp only[eqP];exact SeqAt.RcAt.str_none z1 t1)
  |bl b2 =>
   cases rv
   first|exact SeqAt.RcAt.str_bool z1 t1 b2|(simp only[eqP];exact SeqAt.RcAt.str_bool z1 t1 b2)
  |int i2 =>
   obtain⟨t2,rfl⟩:=rv
   first|exact SeqAt.RcAt.str_int z1 t1 i2 t2|(simp only[eqP];exact SeqAt.RcAt.str_int z1 t1 i2 t2)
  |str z2 =>
   obtain⟨t2,rfl⟩:=rv
   first|exact SeqAt.RcAt.str_str z1 t1 z2 t2|(simp only[eqP];exact SeqAt.RcAt.str_str z1 t1 z2 t2)
  |@tup a2 xs2 pN h2 r2 =>
   cases rv;obtain⟨its2,vv2,p2,_⟩:=I.tuple h2
   first|exact SeqAt.RcAt.str_tuple z1 t1 (show s.heap.IsTuple a2 its2.toArray from p2) hu0|(simp only[eqP];exact SeqAt.RcAt.str_tuple z1 t1 (show s.heap.IsTuple a2 its2.toArray from p2) hu0)
  |ref _=>simp[aQ]at hy
  |ty _=>simp[aQ]at hy
 |@tup a1 xs1 ds1 h1 r1 =>
  cases ru;obtain⟨fD,vv1,p1,_⟩:=I.tuple h1;cases ry with
  |non =>
   cases rv
   first|exact SeqAt.RcAt.tuple_none (show s.heap.IsTuple a1 fD.toArray from p1) hu0|(simp only[eqP];exact SeqAt.RcAt.tuple_none (show s.heap.IsTuple a1 fD.toArray from p1) hu0)
  |bl b2 =>
   cases rv
   first|exact SeqAt.RcAt.tuple_bool b2 (show s.heap.IsTuple a1 fD.toArray from p1) hu0|(simp only[eqP];exact SeqAt.RcAt.tuple_bool b2 (show s.heap.IsTuple a1 fD.toArray from p1) hu0)
  |int i2 =>
   obtain⟨t2,rfl⟩:=rv
   first|exact SeqAt.RcAt.tuple_int i2 t2 (show s.heap.IsTuple a1 fD.toArray from p1) hu0|(simp only[eqP];exact SeqAt.RcAt.tuple_int i2 t2 (show s.heap.IsTuple a1 fD.toArray from p1) hu0)
  |str z2 =>
   obtain⟨t2,rfl⟩:=rv
   first|exact SeqAt.RcAt.tuple_str z2 t2 (show s.heap.IsTuple a1 fD.toArray from p1) hu0|(simp only[eqP];exact SeqAt.RcAt.tuple_str z2 t2 (show s.heap.IsTuple a1 fD.toArray from p1) hu0)
  |@tup a2 xs2 pN h2 r2 =>
   cases rv;obtain⟨its2,vv2,p2,_⟩:=I.tuple h2
   have z:=SeqAt.RcAt.tuples (e:=tH ds1 pN) (show s.heap.IsTuple a1 fD.toArray from p1) (show s.heap.IsTuple a2 its2.toArray from p2) hu0 (vC (n:=n) r1 r2 vv1 vv2 λx mx y my v w u t q1 q2 q3 q4 =>
      zG I n A.in1 x y v w u t (vD hu) (jy.mp (by simpa[aQ]using hx) x mx) (jy.mp (by simpa[aQ]using hy) y my) q1 q2 q3 q4)
   have e:((jw (min fD.toArray.size its2.toArray.size)).all (tH ds1 pN)&&fD.toArray.size==its2.toArray.size)=eqP (.tup ds1) (.tup pN):=by
    rw[eqP,lB,gk,gk,←vv1.length,←vv2.length,←r1.length,←r2.length]
   rw[e]at z;exact z
  |ref _=>simp[aQ]at hy
  |ty _=>simp[aQ]at hy
 |ref _=>simp[aQ]at hx
 |ty _=>simp[aQ]at hx
theorem aMK(I:Inv X pins σ H s)(n:Nat)(A:jr)(hl:yJ X.K H a1 xs)(y:D)(vy:V)(v:aq)(hu0:A.units<jl)(hy:aQ n y=ak)(ry:RD X.K H y vy)(rv:RelV vy v):SeqAt.RcAt A s (.ref a1) v ao:=by
 obtain⟨fD,vv1,pl,_⟩:=I.list hl;have p1:=pl.isList;cases ry with
 |non =>
  cases rv;exact SeqAt.RcAt.list_none p1 hu0
 |bl b2 =>
  cases rv;exact SeqAt.RcAt.list_bool b2 p1 hu0
 |int i2 =>
  obtain⟨t2,rfl⟩:=rv;exact SeqAt.RcAt.list_int i2 t2 p1 hu0
 |str z2 =>
  obtain⟨t2,rfl⟩:=rv;exact SeqAt.RcAt.list_str z2 t2 p1 hu0
 |@tup a2 xs2 pN h2 r2 =>
  cases rv;obtain⟨its2,vv2,p2,_⟩:=I.tuple h2;exact SeqAt.RcAt.list_tuple (show s.heap.IsList a1 fD.toArray from p1) (show s.heap.IsTuple a2 its2.toArray from p2) hu0
 |ref _=>cases n<;>simp[aQ]at hy
 |ty _=>cases n<;>simp[aQ]at hy
theorem aML(I:Inv X pins σ H s)(n:Nat)(A:jr)(hl:yJ X.K H a2 xs)(y:D)(vy:V)(v:aq)(hu0:A.units<jl)(hy:aQ n y=ak)(ry:RD X.K H y vy)(rv:RelV vy v):SeqAt.RcAt A s v (.ref a2) ao:=by
 obtain⟨its2,vv2,pl,_⟩:=I.list hl;have p2:=pl.isList;cases ry with
 |non =>
  cases rv;exact SeqAt.RcAt.none_list p2 hu0
 |bl b1 =>
  cases rv;exact SeqAt.RcAt.bool_list b1 p2 hu0
 |int i1 =>
  obtain⟨t1,rfl⟩:=rv;exact SeqAt.RcAt.int_list i1 t1 p2 hu0
 |str z1 =>
  obtain⟨t1,rfl⟩:=rv;exact SeqAt.RcAt.str_list z1 t1 p2 hu0
 |@tup a1 xs1 ds1 h1 r1 =>
  cases rv;obtain⟨fD,vv1,p1,_⟩:=I.tuple h1;exact SeqAt.RcAt.tuple_list (show s.heap.IsTuple a1 fD.toArray from p1) (show s.heap.IsList a2 its2.toArray from p2) hu0
 |ref _=>cases n<;>simp[aQ]at hy
 |ty _=>cases n<;>simp[aQ]at hy
theorem aMM(I:Inv X pins σ H s)(n:Nat)(A:jr){ds1 pN:List D}(h1:yJ X.K H a1 xs1)(h2:yJ X.K H a2 xs2)(r1:bW X.K H ds1 xs1)(r2:bW X.K H pN xs2)
  (hu:A.units+(n+1)<jl)(hx:ds1.all (aQ n)=ak)(hy:pN.all (aQ n)=ak):SeqAt.RcAt A s (.ref a1) (.ref a2) (o8 ds1 pN):=by
 have hu0:A.units<jl:=by omega
 obtain⟨fD,vv1,q1,_⟩:=I.list h1;obtain⟨its2,vv2,q2,_⟩:=I.list h2;have p1:=q1.isList;have p2:=q2.isList;by_cases hl:ds1.length=pN.length
 .have hsz:fD.toArray.size=its2.toArray.size:=by rw[gk,gk,←vv1.length,←vv2.length,←r1.length,←r2.length];exact hl
  have z:=SeqAt.RcAt.lists (e:=tH ds1 pN) p1 p2 hsz hu0 (vC (n:=n) r1 r2 vv1 vv2 λx mx y my v w u t q1 q2 q3 q4 =>
      zG I n A.in1 x y v w u t (vD hu) (jy.mp hx x mx) (jy.mp hy y my) q1 q2 q3 q4)
  have e:(jw fD.toArray.size).all (tH ds1 pN)=o8 ds1 pN:=by rw[aa2 hl,gk,←vv1.length,←r1.length]
  rw[e]at z;exact z
 .have hne:(fD.toArray.size !=its2.toArray.size)=ak:=by rw[gk,gk,←vv1.length,←vv2.length,←r1.length,←r2.length];simpa using hl
  have e:o8 ds1 pN=ao:=ae5 (by simpa using hl);rw[e];exact SeqAt.RcAt.lists_lengths p1 p2 hne hu0
theorem aBM(I:Inv X pins σ H s)(n:Nat)(A:jr)(x y:D)(vx vy:V)(u v:aq)(hu:A.units+(n+1)<jl)(hx:aQ (n+1) x=ak)(hy:aQ (n+1) y=ak)(rx:RD X.K H x vx)(ry:RD X.K H y vy)(ru:RelV vx u)(rv:RelV vy v):SeqAt.RcNeAt A s u v (!eqP x y):=by
 have hu0:A.units<jl:=by omega
 cases rx with
 |non =>
  cases ru;cases ry with
  |non =>
   cases rv
   first|exact SeqAt.RcNeAt.none_none|(simp only[eqP];exact SeqAt.RcNeAt.none_none)
  |bl b2 =>
   cases rv
   first|exact SeqAt.RcNeAt.none_bool b2|(simp only[eqP];exact SeqAt.RcNeAt.none_bool b2)
  |int i2 =>
   obtain⟨t2,rfl⟩:=rv
   first|exact SeqAt.RcNeAt.none_int i2 t2|(simp only[eqP];exact SeqAt.RcNeAt.none_int i2 t2)
  |str z2 =>
   obtain⟨t2,rfl⟩:=rv
   first|exact SeqAt.RcNeAt.none_str z2 t2|(simp only[eqP];exact SeqAt.RcNeAt.none_str z2 t2)
  |@tup a2 xs2 pN h2 r2 =>
   cases rv;obtain⟨its2,vv2,p2,_⟩:=I.tuple h2
   first|exact SeqAt.RcNeAt.none_tuple (show s.heap.IsTuple a2 its2.toArray from p2) hu0|(simp only[eqP];exact SeqAt.RcNeAt.none_tuple (show s.heap.IsTuple a2 its2.toArray from p2) hu0)
  |ref _=>simp[aQ]at hy
  |ty _=>simp[aQ]at hy
 |bl b1 =>
  cases ru;cases ry with
  |non =>
   cases rv
   first|exact SeqAt.RcNeAt.bool_none b1|(simp only[eqP];exact SeqAt.RcNeAt.bool_none b1)
  |bl b2 =>
   cases rv
   first|exact SeqAt.RcNeAt.bool_bool b1 b2|(simp only[eqP];exact SeqAt.RcNeAt.bool_bool b1 b2)
  |int i2 =>
   obtain⟨t2,rfl⟩:=rv
   first|exact SeqAt.RcNeAt.bool_int b1 i2 t2|(simp only[eqP];exact SeqAt.RcNeAt.bool_int b1 i2 t2)
  |str z2 =>
   obtain⟨t2,rfl⟩:=rv
   first|exact SeqAt.RcNeAt.bool_str b1 z2 t2|(simp only[eqP];exact SeqAt.RcNeAt.bool_str b1 z2 t2)
  |@tup a2 xs2 pN h2 r2 =>
   cases rv;obtain⟨its2,vv2,p2,_⟩:=I.tuple h2
   first|exact SeqAt.RcNeAt.bool_tuple b1 (show s.heap.IsTuple a2 its2.toArray from p2) hu0|(simp only[eqP];exact SeqAt.RcNeAt.bool_tuple b1 (show s.heap.IsTuple a2 its2.toArray from p2) hu0)
  |ref _=>simp[aQ]at hy
  |ty _=>simp[aQ]at hy
 |int i1 =>
  obtain⟨t1,rfl⟩:=ru;cases ry with
  |non =>
   cases rv
   first|exact SeqAt.RcNeAt.int_none i1 t1|(simp only[eqP];exact SeqAt.RcNeAt.int_none i1 t1)
  |bl b2 =>
   cases rv
   first|exact SeqAt.RcNeAt.int_bool i1 t1 b2|(simp only[eqP];exact SeqAt.RcNeAt.int_bool i1 t1 b2)
  |int i2 =>
   obtain⟨t2,rfl⟩:=rv
   first|exact SeqAt.RcNeAt.int_int i1 t1 i2 t2|(simp only[eqP];exact SeqAt.RcNeAt.int_int i1 t1 i2 t2)
  |str z2 =>
   obtain⟨t2,rfl⟩:=rv
   first|exact SeqAt.RcNeAt.int_str i1 t1 z2 t2|(simp only[eqP];exact SeqAt.RcNeAt.int_str i1 t1 z2 t2)
  |@tup a2 xs2 pN h2 r2 =>
   cases rv;obtain⟨its2,vv2,p2,_⟩:=I.tuple h2
   first|exact SeqAt.RcNeAt.int_tuple i1 t1 (show s.heap.IsTuple a2 its2.toArray from p2) hu0|(simp only[eqP];exact SeqAt.RcNeAt.int_tuple i1 t1 (show s.heap.IsTuple a2 its2.toArray from p2) hu0)
  |ref _=>simp[aQ]at hy
  |ty _=>simp[aQ]at hy
 |str z1 =>
  obtain⟨t1,rfl⟩:=ru;cases ry with
  |non =>
   cases rv
   first|exact SeqAt.RcNeAt.str_none z1 t1|(simp only[eqP];exact SeqAt.RcNeAt.str_none z1 t1)
  |bl b2 =>
   cases rv
   first|exact SeqAt.RcNeAt.str_bool z1 t1 b2|(simp only[eqP];exact SeqAt.RcNeAt.str_bool z1 t1 b2)
  |int i2 =>
   obtain⟨t2,rfl⟩:=rv
   first|exact SeqAt.RcNeAt.str_int z1 t1 i2 t2|(simp only[eqP];exact SeqAt.RcNeAt.str_int z1 t1 i2 t2)
  |str z2 =>
   obtain⟨t2,rfl⟩:=rv
   first|exact SeqAt.RcNeAt.str_str z1 t1 z2 t2|(simp only[eqP];exact SeqAt.RcNeAt.str_str z1 t1 z2 t2)
  |@tup a2 xs2 pN h2 r2 =>
   cases rv;obtain⟨its2,vv2,p2,_⟩:=I.tuple h2
   first|exact SeqAt.RcNeAt.str_tuple z1 t1 (show s.heap.IsTuple a2 its2.toArray from p2) hu0|(simp only[eqP];exact SeqAt.RcNeAt.str_tuple z1 t1 (show s.heap.IsTuple a2 its2.toArray from p2) hu0)
  |ref _=>simp[aQ]at hy
  |ty _=>simp[aQ]at hy
 |@tup a1 xs1 ds1 h1 r1 =>
  cases ru;obtain⟨fD,vv1,p1,_⟩:=I.tuple h1;cases ry with
  |non =>
   cases rv
   first|exact SeqAt.RcNeAt.tuple_none (show s.heap.IsTuple a1 fD.toArray from p1) hu0|(simp only[eqP];exact SeqAt.RcNeAt.tuple_none (show s.heap.IsTuple a1 fD.toArray from p1) hu0)
  |bl b2 =>
   cases rv
   first|exact SeqAt.RcNeAt.tuple_bool b2 (show s.heap.IsTuple a1 fD.toArray from p1) hu0|(simp only[eqP];exact SeqAt.RcNeAt.tuple_bool b2 (show s.heap.IsTuple a1 fD.toArray from p1) hu0)
  |int i2 =>
   obtain⟨t2,rfl⟩:=rv
   first|exact SeqAt.RcNeAt.tuple_int i2 t2 (show s.heap.IsTuple a1 fD.toArray from p1) hu0|(simp only[eqP];exact SeqAt.RcNeAt.tuple_int i2 t2 (show s.heap.IsTuple a1 fD.toArray from p1) hu0)
  |str z2 =>
   obtain⟨t2,rfl⟩:=rv
   first|exact SeqAt.RcNeAt.tuple_str z2 t2 (show s.heap.IsTuple a1 fD.toArray from p1) hu0|(simp only[eqP];exact SeqAt.RcNeAt.tuple_str z2 t2 (show s.heap.IsTuple a1 fD.toArray from p1) hu0)
  |@tup a2 xs2 pN h2 r2 =>
   cases rv;obtain⟨its2,vv2,p2,_⟩:=I.tuple h2
   have z:=SeqAt.RcNeAt.tuples (e:=tH ds1 pN) (show s.heap.IsTuple a1 fD.toArray from p1) (show s.heap.IsTuple a2 its2.toArray from p2) hu0 (vC (n:=n) r1 r2 vv1 vv2 λx mx y my v w u t q1 q2 q3 q4 =>
      zG I n A.in1 x y v w u t (vD hu) (jy.mp (by simpa[aQ]using hx) x mx) (jy.mp (by simpa[aQ]using hy) y my) q1 q2 q3 q4)
   have e:((jw (min fD.toArray.size its2.toArray.size)).all (tH ds1 pN)&&fD.toArray.size==its2.toArray.size)=eqP (.tup ds1) (.tup pN):=by
    rw[eqP,lB,gk,gk,←vv1.length,←vv2.length,←r1.length,←r2.length]
   rw[e]at z;exact z
  |ref _=>simp[aQ]at hy
  |ty _=>simp[aQ]at hy
 |ref _=>simp[aQ]at hx
 |ty _=>simp[aQ]at hx
theorem aBN(I:Inv X pins σ H s)(n:Nat)(A:jr)(hl:yJ X.K H a1 xs)(y:D)(vy:V)(v:aq)(hu0:A.units<jl)(hy:aQ n y=ak)(ry:RD X.K H y vy)(rv:RelV vy v):SeqAt.RcNeAt A s (.ref a1) v ak:=by
 obtain⟨fD,vv1,pl,_⟩:=I.list hl;have p1:=pl.isList;cases ry with
 |non =>
  cases rv;exact SeqAt.RcNeAt.list_none p1 hu0
 |bl b2 =>
  cases rv;exact SeqAt.RcNeAt.list_bool b2 p1 hu0
 |int i2 =>
  obtain⟨t2,rfl⟩:=rv;exact SeqAt.RcNeAt.list_int i2 t2 p1 hu0
 |str z2 =>
  obtain⟨t2,rfl⟩:=rv;exact SeqAt.RcNeAt.list_str z2 t2 p1 hu0
 |@tup a2 xs2 pN h2 r2 =>
  cases rv;obtain⟨its2,vv2,p2,_⟩:=I.tuple h2;exact SeqAt.RcNeAt.list_tuple (show s.heap.IsList a1 fD.toArray from p1) (show s.heap.IsTuple a2 its2.toArray from p2) hu0
 |ref _=>cases n<;>simp[aQ]at hy
 |ty _=>cases n<;>simp[aQ]at hy
theorem aBO(I:Inv X pins σ H s)(n:Nat)(A:jr)(hl:yJ X.K H a2 xs)(y:D)(vy:V)(v:aq)(hu0:A.units<jl)(hy:aQ n y=ak)(ry:RD X.K H y vy)(rv:RelV vy v):SeqAt.RcNeAt A s v (.ref a2) ak:=by
 obtain⟨its2,vv2,pl,_⟩:=I.list hl;have p2:=pl.isList;cases ry with
 |non =>
  cases rv;exact SeqAt.RcNeAt.none_list p2 hu0
 |bl b1 =>
  cases rv;exact SeqAt.RcNeAt.bool_list b1 p2 hu0
 |int i1 =>
  obtain⟨t1,rfl⟩:=rv;exact SeqAt.RcNeAt.int_list i1 t1 p2 hu0
 |str z1 =>
  obtain⟨t1,rfl⟩:=rv;exact SeqAt.RcNeAt.str_list z1 t1 p2 hu0
 |@tup a1 xs1 ds1 h1 r1 =>
  cases rv;obtain⟨fD,vv1,p1,_⟩:=I.tuple h1;exact SeqAt.RcNeAt.tuple_list (show s.heap.IsTuple a1 fD.toArray from p1) (show s.heap.IsList a2 its2.toArray from p2) hu0
 |ref _=>cases n<;>simp[aQ]at hy
 |ty _=>cases n<;>simp[aQ]at hy
theorem aBP(I:Inv X pins σ H s)(n:Nat)(A:jr){ds1 pN:List D}(h1:yJ X.K H a1 xs1)(h2:yJ X.K H a2 xs2)(r1:bW X.K H ds1 xs1)(r2:bW X.K H pN xs2)
  (hu:A.units+(n+1)<jl)(hx:ds1.all (aQ n)=ak)(hy:pN.all (aQ n)=ak):SeqAt.RcNeAt A s (.ref a1) (.ref a2) (!o8 ds1 pN):=by
 have hu0:A.units<jl:=by omega
 obtain⟨fD,vv1,q1,_⟩:=I.list h1;obtain⟨its2,vv2,q2,_⟩:=I.list h2;have p1:=q1.isList;have p2:=q2.isList;by_cases hl:ds1.length=pN.length
 .have hsz:fD.toArray.size=its2.toArray.size:=by rw[gk,gk,←vv1.length,←vv2.length,←r1.length,←r2.length];exact hl
  have z:=SeqAt.RcNeAt.lists (e:=tH ds1 pN) p1 p2 hsz hu0 (vC (n:=n) r1 r2 vv1 vv2 λx mx y my v w u t q1 q2 q3 q4 =>
      zG I n A.in1 x y v w u t (vD hu) (jy.mp hx x mx) (jy.mp hy y my) q1 q2 q3 q4)
  have e:(jw fD.toArray.size).all (tH ds1 pN)=o8 ds1 pN:=by rw[aa2 hl,gk,←vv1.length,←r1.length]
  rw[e]at z;exact z
 .have hne:(fD.toArray.size !=its2.toArray.size)=ak:=by rw[gk,gk,←vv1.length,←vv2.length,←r1.length,←r2.length];simpa using hl
  have e:o8 ds1 pN=ao:=ae5 (by simpa using hl);rw[e];exact SeqAt.RcNeAt.lists_lengths p1 p2 hne hu0
def eqG(G:Gp)(x y:D)(k:Bool->Prop):Prop:=match x,y with
 |.ref a,.ref b=>(match aY G a,aY G b with
  |some xs,aj ys=>xs.all (aQ 20)=ak/\ys.all (aQ 20)=ak/\k (o8 xs ys)
  |_,_=>False)
 |.ref a,y=>(match aY G a with
  |some _=>aQ 20 y=ak/\k ao
  |none=>False)
 |x,.ref b=>(match aY G b with
  |some _=>aQ 20 x=ak/\k ao
  |none=>False)
 |x,y=>aQ 20 x=ak/\aQ 20 y=ak/\k (eqP x y)
noncomputable def xR:R3:=λx y G R=>eqG G x y λb=>R (.bl b) G
noncomputable def aoR:R3:=λx y G R=>eqG G x y λb=>R (.bl (!b)) G
theorem vG{r3:R3}(h:∀(pins:List (bw×Obj))(s:dh)(σ:St)(H:Hp)(x y:D)(vx vy:V)(u v:aq)(G:Gp)(R:fZ)(Q:VK),Inv X pins σ H s->RD X.K H x vx->RD X.K H y vy->RelV vx u->RelV vy v->HR X.K H G->r3 x y G R ->
   (∀w H' d G',Ts H H'->RD X.K H' d w->HR X.K H' G'->R d G'->Q w H')->dg (fj X.prog X.w) X.A (f u v) (EP X pins σ Q) X.xe s):jY X f r3 :=
 ⟨λvx vy H Q=>∃x y G R,RD X.K H x vx/\RD X.K H y vy/\HR X.K H G/\r3 x y G R/\∀w H' d G',Ts H H'->RD X.K H' d w->HR X.K H' G'->R d G'->Q w H',
  λpins s σ H vx vy u v Q I ru rv ⟨x,y,G,R,rx,ry,g,q,k⟩=>h pins s σ H x y vx vy u v G R Q I rx ry ru rv g q k,λH x y vx vy G R Q rx ry g q k=>⟨x,y,G,R,rx,ry,g,q,k⟩⟩
set_option tactic.hygienic true in
theorem ajP(hu:X.A.units+64<jl){neg:Bool}(hop:op=if neg then .NotEq else .Eq){x:D}{v:aq}{k:Bool->Prop}{Q:VK}(I:Inv X pins σ H s)(rx:RD X.K H x vx)(ry:RD X.K H y vy)(ru:RelV vx u)(rv:RelV vy v)(g:HR X.K H G)
  (h:eqG G x y k)(hk:∀b,k b->EP X pins σ Q (.bool (neg ^^ b)) s):dg (fj X.prog X.w) X.A (jd op u v) (EP X pins σ Q) X.xe s:=by
 have fin:∀{b:Bool},(if neg then SeqAt.RcNeAt X.A s u v (!b)else SeqAt.RcAt X.A s u v b)->k b->dg (fj X.prog X.w) X.A (jd op u v) (EP X pins σ Q) X.xe s:=λ{b} z kb=>by
  have e:=hk b kb;cases neg with
  |true =>
   subst hop;rw[Bool.true_xor]at e;exact z X.prog X.w X.xe _ e
  |false =>
   subst hop;rw[a2z]at e;exact z X.prog X.w X.xe _ e
 have hu1:X.A.units+(20+1)<jl:=by omega
 have hu2:X.A.units+(19+1)<jl:=by omega
 have hu0:X.A.units<jl:=by omega
 have plain:aQ 20 x=ak->aQ 20 y=ak->k (eqP x y)->dg (fj X.prog X.w) X.A (jd op u v) (EP X pins σ Q) X.xe s:=λhx hy kk=>fin (b:=eqP x y) (by
  cases neg with
  |true=>exact aBM I 19 X.A x y vx vy u v hu2 hx hy rx ry ru rv
  |false=>exact aMJ I 19 X.A x y vx vy u v hu2 hx hy rx ry ru rv) kk
 have left:∀a xs,x=.ref a->aY G a=aj xs->aQ 20 y=ak->k ao->dg (fj X.prog X.w) X.A (jd op u v) (EP X pins σ Q) X.xe s:=λa xs e1 e2 hy kk=>by
  subst e1;cases rx;cases ru;obtain⟨zs,hz,_⟩:=bU g e2;refine fin (b:=false) ?_ kk;cases neg with
  |true=>exact aBN I 20 X.A hz y vy v hu0 hy ry rv
  |false=>exact aMK I 20 X.A hz y vy v hu0 hy ry rv
 have right:∀a xs,y=.ref a->aY G a=aj xs->aQ 20 x=ak->k ao->dg (fj X.prog X.w) X.A (jd op u v) (EP X pins σ Q) X.xe s:=λa xs e1 e2 hy kk=>by
  subst e1;cases ry;cases rv;obtain⟨zs,hz,_⟩:=bU g e2;refine fin (b:=false) ?_ kk;cases neg with
  |true=>exact aBO I 20 X.A hz x vx u hu0 hy rx ru
  |false=>exact aML I 20 X.A hz x vx u hu0 hy rx ru
 unfold eqG at h;split at h
 .rename_i a b;split at h
  .rename_i xs ys e1 e2;cases rx;cases ry;cases ru;cases rv;obtain⟨zs1,hz1,q1⟩:=bU g e1;obtain⟨zs2,hz2,q2⟩:=bU g e2;refine fin (b:=o8 xs ys) ?_ h.2.2;cases neg with
   |true=>exact aBP I 20 X.A hz1 hz2 q1 q2 hu1 h.1 h.2.1
   |false=>exact aMM I 20 X.A hz1 hz2 q1 q2 hu1 h.1 h.2.1
  .exact h.elim
 .rename_i a _;split at h
  .rename_i xs e1;exact left a xs rfl e1 h.1 h.2
  .exact h.elim
 .rename_i b _;split at h
  .rename_i xs e1;exact right b xs rfl e1 h.1 h.2
  .exact h.elim
 .exact plain h.1 h.2.1 h.2.2
theorem aMN(hu:X.A.units+64<jl):jY X (jd .Eq) xR:=vG λpins s σ H x y vx vy u v G R Q I rx ry ru rv g q k =>
 ajP (neg:=false) hu rfl I rx ry ru rv g q λb kb=>⟨.bl b,H,I,by rw[a2z];rfl,k _ H (.bl b) G (.refl H) (.bl b) g kb⟩
theorem aMO(hu:X.A.units+64<jl):jY X (jd .NotEq) aoR:=vG λpins s σ H x y vx vy u v G R Q I rx ry ru rv g q k =>
 ajP (neg:=true) hu rfl I rx ry ru rv g q λb kb=>⟨.bl (!b),H,I,by rw[Bool.true_xor];rfl,k _ H (.bl (!b)) G (.refl H) (.bl (!b)) g kb⟩
end
end
section
open PySem.W PySem.Calls
open PySem.Builtin PySem.Builtin.ObjectAttr PySem.Builtin.Getset_descriptor
section
variable{prog:jo}{w:jf}{A:jr}{s:dh}{K:Fg}{x:bw}{o:Obj}
theorem a94{tp:aq}(X:K.In s.heap)(hx:s.heap.get? x=aj o)(hc:o.cls=.ref C)(hm:mroIn K C (.type "object")=aj ak)
  (h:R (.ok (.ret (.ref C))) s):a0u (fj prog w) A (.call (.builtin "getset_descriptor.__get__") ⟨[.builtin "object.__class__",.ref x,tp],[]⟩) R s:=by
 obtain⟨hh,g,dr,t,os⟩:=s;have L0:Looks (fj prog w) hh (typeOf (.ref x)) (.ref C):=hc ▸ (Looks.ld hx).andThen .now;have L1:=looks_mroIn (M:=model prog w) X hm;refine codeAny_call_builtin KF.slot_gs.plain KF.entry_gs (KF.slot_gs.check _ _ _ _ _ _ _ _ KF.type_class (KF.args_gs _ _ _) ?_);unfold Builtin.«getset_descriptor.__get__» descrGet;rw[dga_obj];refine au (cj ?_);unfold descrGetter descrCheckInstance descrNameAndClass isInstance;simp only[KF.owner_class]
 repeat lk
 refine⟨Code.quiet_builtin _ (by decide+kernel),a0y KF.entry_class ?_⟩;unfold Builtin.«object.__class__» shownTypeOf
 repeat lk
 exact h
theorem amF(X:K.In s.heap)(hx:s.heap.get? x=aj o)(hc:o.cls=.ref C)
  (hga:findIn K (.ref C) "__getattribute__"=aj (aj (.builtin "BaseException.__getattribute__")))(hgn:findIn K (.ref C) "__getattr__"=aj bh)(ha:findIn K (.ref C) "__class__"=aj (aj (.builtin "object.__class__")))
  (hb:subIn K (.ref C) (.type "BaseException")=aj ak)(hm:mroIn K C (.type "object")=aj ak)(h:Q (aj (.ref C)) {s with toks:=s.toks+1}):dg (fj prog w) A (getAttr? (.ref x) "__class__") Q E s:=by
 obtain⟨hh,g,d,t,os⟩:=s;have L0:Looks (fj prog w) hh (typeOf (.ref x)) (.ref C):=hc ▸ (Looks.ld hx).andThen .now;have L1:=looks_findIn (M:=model prog w) X hga;have L2':=looks_findIn (M:=model prog w) X hgn;have L3:=looks_findIn (M:=model prog w) X ha;have L4:=looks_subIn (M:=model prog w) X hb;unfold getAttr? getAttrBy? getAttrBy;refine au (wpAny_mkText (au (wpAny_attempt (qb (au (L0.at (au (L1.at ?_))))))));have hx2:(aq.builtin "BaseException.__getattribute__"==aq.builtin "object.__getattribute__")=ao:=by decide+kernel
 have f3:=PySem.F.attr_ValueError.ga.bind (.ref x);have hk:builtinKind "BaseException.__getattribute__"=aj .slot:=by decide+kernel
 have hsplit:splitId "BaseException.__getattribute__"=aj ("BaseException","__getattribute__"):=by decide+kernel
 have ha2:=PySem.F.args_bexc_ga (.ref x) (.str "__class__" t)
 repeat (first|with_reducible refine L0.at ?_|with_reducible refine L1.at ?_|with_reducible refine L2'.at ?_|with_reducible refine L3.at ?_|with_reducible refine L4.at ?_|wp_step)
 refine codeAny_call_builtin PySem.F.attr_ValueError.ga.plain PySem.F.entry_bexc_ga ?_;simp only[checkBuiltinCall,hk,hsplit];unfold isInstance;have f5:=PySem.F.typeOf_object_class;have f6:=PySem.F.slot_gs_get.lookup;have f7:=PySem.F.slot_gs_set.lookup
 repeat (any_goals (first|assumption|with_reducible refine L0.at ?_|with_reducible refine L1.at ?_|with_reducible refine L2'.at ?_|with_reducible refine L3.at ?_|with_reducible refine L4.at ?_|wp_step))
 refine a94 X hx hc hm ?_
 repeat (any_goals (first|assumption|wp_step))
end
end
variable{T:String}{σ:St}{R:fZ}
section
variable{n:String}{H:Hp}{Q:VK}
section
variable{X:Cx}{x:Str}{p pos:Pos}{e:jk}{t:sS}{id T:String}{r3:List D->Gp->fZ->Prop}
noncomputable def d8(X:Cx)(f:aq)(r3:List D->Gp->fZ->Prop):Prop :=
 ∀(pins:List (bw×Obj))(s:dh)(σ:St)(H:Hp)(xs:List D)(vs:List V)(us:List aq)(G:Gp)(R:fZ)(Q:VK),Inv X pins σ H s->bW X.K H xs vs->Vals vs us->HR X.K H G->r3 xs G R ->
  (∀v H' d G',Ts H H'->RD X.K H' d v->HR X.K H' G'->R d G'->Q v H')->dg (fj X.prog X.w) X.A (call f us) (EP X pins σ Q) X.xe s
theorem d8.of(h:uX X f r)(i:∀(H:Hp)(xs:List D)(vs:List V)(G:Gp)(R:fZ)(Q:VK),bW X.K H xs vs->HR X.K H G->r3 xs G R ->
  (∀v H' d G',Ts H H'->RD X.K H' d v->HR X.K H' G'->R d G'->Q v H')->r vs H λv H'=>KF X.K H'->Q v H'):d8 X f r3:=λpins s σ H xs vs us G R Q I rx rv g q k =>
 cR (h pins s σ H vs us _ I rv (i H xs vs G R Q rx g q k)) λ_ _ ⟨v,H',I',r,q'⟩=>⟨v,H',I',r,q' (nG I')⟩
noncomputable def kJ(r3:List D->Gp->fZ->Prop)(t:sS):bV:=λρ G R=>t ρ G λxs G1=>r3 xs G1 R
theorem tK(hc:d8 X (.builtin id) r3)(hg:Gl X x)(hm:X.mg x=bh)(hv:ni x=aj (.builtin id))(ha:PA3 X (e::es) t)(hn:x≠"__name__":=by decide)(hdb:(x==("__debug__":Str))=ao:=by decide)
  (he:jg (e::es) X.env=(ao,eval e X.env)::jg es X.env:=by rfl)(hpl:(rm pos (jg es X.env)).any (·.1)=ao:=by rfl):bY X (.Call (.Name x p) (e::es) [] pos) (kJ r3 t):=by
 intro pins s σ H Q I h;obtain⟨ρ,G,R,sr,g,q,kk⟩:=h;refine wg (zA I hg hm hv ?_ hn hdb)
 exact PyProof.Rows.callWith_builtin1 (cR (ha pos pins s σ H (λvs H1=>Ts H H1/\∃ds G1,bW X.K H1 ds vs/\HR X.K H1 G1/\r3 ds G1 R) I ⟨ρ,G,_,sr,g,q,λvs H1 ds G1 t1 r1 g1 q1=>⟨t1,ds,G1,r1,g1,q1⟩⟩) λus s1 ⟨vs,H1,I1,r,t1,ds,G1,r1,g1,q1⟩ =>
  hc pins s1 σ H1 ds vs us G1 R Q I1 r1 r g1 q1 λv H' d G' t2=>kk v H' d G' (t1.trans t2)) he hpl
theorem a0E(hc:d8 X (.type T) r3)(hg:Gl X x)(hm:X.mg x=bh)(hv:ni x=aj (.type T))(ha:PA3 X (e::es) t)(hn:x≠"__name__":=by decide)(hdb:(x==("__debug__":Str))=ao:=by decide)
  (he:jg (e::es) X.env=(ao,eval e X.env)::jg es X.env:=by rfl)(hpl:(rm pos (jg es X.env)).any (·.1)=ao:=by rfl):bY X (.Call (.Name x p) (e::es) [] pos) (kJ r3 t):=by
 intro pins s σ H Q I h;obtain⟨ρ,G,R,sr,g,q,kk⟩:=h;refine wg (zA I hg hm hv ?_ hn hdb)
 exact PyProof.Rows.callWith_type1 (cR (ha pos pins s σ H (λvs H1=>Ts H H1/\∃ds G1,bW X.K H1 ds vs/\HR X.K H1 G1/\r3 ds G1 R) I ⟨ρ,G,_,sr,g,q,λvs H1 ds G1 t1 r1 g1 q1=>⟨t1,ds,G1,r1,g1,q1⟩⟩) λus s1 ⟨vs,H1,I1,r,t1,ds,G1,r1,g1,q1⟩ =>
  hc pins s1 σ H1 ds vs us G1 R Q I1 r1 r g1 q1 λv H' d G' t2=>kk v H' d G' (t1.trans t2)) he hpl
noncomputable def yP:List D->Gp->fZ->Prop:=λxs G R=>match xs with
 |[.str z]=>z.length<=cu/\R (.int z.length) G
 |[.tup ds]=>R (.int ds.length) G
 |[.ref q]=>(match aY G q with
  |some ds=>R (.int ds.length) G
  |none=>False)
 |_=>False
set_option tactic.hygienic true in
theorem aHW:d8 X (.builtin "len") yP:=d8.of (abO.or abP) λH xs vs G R Q rx g q k=>by
 cases rx with
 |nil=>exact False.elim q
 |cons r rr =>
  cases rr with
  |cons _ _=>cases r<;>exact False.elim q
  |nil =>
   cases r with
   |str z=>exact .inr ⟨z,rfl,q.1,λ_=>k _ H _ G (.refl H) (.int _) g q.2⟩
   |@tup a xs ds ha ra=>exact .inl ⟨a,xs,rfl,.inr ha,λ_=>by rw[←ra.length];exact k _ H _ G (.refl H) (.int _) g q⟩
   |ref a =>
    have q':(match aY G a with
     |some ds=>R (.int ds.length) G
     |none=>False):=q
    split at q'
    .rename_i ds e1;obtain⟨xs,h1,r1⟩:=bU g e1;exact .inl ⟨a,xs,rfl,.inl h1,λ_=>by rw[←r1.length];exact k _ H _ G (.refl H) (.int _) g q'⟩
    .exact q'.elim
   |_=>exact False.elim q
noncomputable def ae6:List D->Gp->fZ->Prop:=λxs G R=>match xs with
 |[.int i]=>R (.int i) G
 |[.bl b]=>R (.int (if b then 1 else 0)) G
 |_=>False
theorem aHX:d8 X (.type "int") ae6:=d8.of alW λH xs vs G R Q rx g q k=>by
 cases rx with
 |nil=>exact False.elim q
 |cons r rr =>
  cases rr with
  |cons _ _=>cases r<;>exact False.elim q
  |nil =>
   cases r with
   |int i=>exact .inl ⟨i,rfl,λ_=>k _ H _ G (.refl H) (.int _) g q⟩
   |bl b=>exact .inr ⟨b,rfl,λ_=>k _ H _ G (.refl H) (.int _) g q⟩
   |_=>exact False.elim q
noncomputable def a6J:List D->Gp->fZ->Prop:=λxs G R=>match xs with
 |[.tup ds]=>∀l,G l=bh->R (.ref l) (aH G l (.lst ds))
 |[.ref q]=>(match aY G q with
  |some ds=>∀l,G l=bh->R (.ref l) (aH G l (.lst ds))
  |none=>False)
 |_=>False
set_option tactic.hygienic true in
theorem aBQ:d8 X (.type "list") a6J:=d8.of abQ λH xs vs G R Q rx g q k=>by
 cases rx with
 |nil=>exact False.elim q
 |cons r rr =>
  cases rr with
  |cons _ _=>cases r<;>exact False.elim q
  |nil =>
   cases r with
   |@tup a xs ds ha ra =>
    refine⟨a,xs,rfl,.inr ha,λl hl kf=>?_⟩;have sn:Same H (upd H l (.lst xs)):=bG hl;exact k _ _ _ _ (.same sn) (.ref l) (g.put (u:=.lst ds) hl ⟨_,aK,ra.mono (.same sn)⟩) (q l (gH g hl kf))
   |ref a =>
    have q':(match aY G a with
     |some ds=>∀l,G l=bh->R (.ref l) (aH G l (.lst ds))
     |none=>False):=q
    split at q'
    .rename_i ds e1;obtain⟨xs,h1,r1⟩:=bU g e1;refine⟨a,xs,rfl,.inl h1,λl hl kf=>?_⟩;have sn:Same H (upd H l (.lst xs)):=bG hl;exact k _ _ _ _ (.same sn) (.ref l) (g.put (u:=.lst ds) hl ⟨_,aK,r1.mono (.same sn)⟩) (q' l (gH g hl kf))
    .exact q'.elim
   |_=>exact False.elim q
noncomputable def tyD(G:Gp):D->Option String
 |.non=>aj "NoneType"
 |.bl _=>aj "bool"
 |.int _=>aj "int"
 |.str _=>aj "str"
 |.tup _=>aj "tuple"
 |.ref q=>(match G q with
  |some (.lst _)=>aj "list"
  |some (.rol _)=>aj "list"
  |some (.bC _ _)=>aj "dict"
  |_=>bh)
 |.ty _=>bh
noncomputable def exD(G:Gp):D->Option bw
 |.ref q=>(match G q with
  |some (.exn C)=>aj C
  |_=>bh)
 |_=>bh
noncomputable def subB(T n:String):Bool:=T==n||(T=="bool"&&n=="int")
noncomputable def aHY:List String:=["NoneType","bool","int","str","list","tuple","dict"]
noncomputable def gA:List String:=["int","bool","str","list","tuple","dict","ValueError"]
theorem aBR:∀T∈aHY,∀n∈gA,a06 [] (.type T) (.type n)=aj (subB T n):=by decide+kernel
theorem nO(K:Fg)(h1:T∈aHY)(h2:n∈gA):a06 K (.type T) (.type n)=aj (subB T n):=aBR T h1 n h2
structure ExC(K:Fg)(C:bw):Prop where
 ga:qg K (.ref C) "__getattribute__"=aj (aj (.builtin "BaseException.__getattribute__"))
 gn:qg K (.ref C) "__getattr__"=aj bh
 cl:qg K (.ref C) "__class__"=aj (aj (.builtin "object.__class__"))
 be:a2g K (.ref C) (.type "BaseException")=aj ak
 ob:PySem.W.mroIn K C (.type "object")=aj ak
 cs:(zq K C).isSome=ak
set_option tactic.hygienic true in
theorem aoS{K:Fg}(c:ExC K C):PySem.W.KitX K (.ref a) (.ref C) (adX C a) where
 ty:=λM h X ⟨o,vs,h1,h2,_⟩=>h2 ▸ (PySem.W.Looks.ld h1).andThen .now
 it:=λM h X _=>by
  intro A' Q' E' s' k q;cases eK:zq K C with
  |none=>have:=c.cs;rw[eK]at this;cases this
  |some cd =>
   unfold zq at eK;split at eK
   .rename_i ho;unfold isType loadHead;exact au (wpAny_loadPart (k _ _ (X _ _ ho)) (cj q))
   .cases eK
 ne:=λh tp dd its n sl X htp=>by
  refine Bool.eq_false_iff.mpr λq=>?_;have e:C=tp:=Value.ref.inj (beq_iff_eq.mp q);subst e;cases eK:zq K C with
  |none=>have:=c.cs;rw[eK]at this;cases this
  |some cd =>
   unfold zq at eK;split at eK
   .rename_i ho;have z:=(X _ _ ho).symm.trans htp;cases z
   .cases eK
 ca:=λX ⟨o,vs,h1,h2,_⟩ k=>amF X h1 h2 c.ga c.gn c.cl c.be c.ob k
noncomputable def aM(K:Fg):List D->Gp->fZ->Prop:=λxs G R=>match xs with
 |[x,.ty n]=>(match tyD G x with
  |some T=>n∈gA/\R (.bl (subB T n)) G
  |none=>(match exD G x with
   |some C=>∃b,ExC K C/\a06 K (.ref C) (.type n)=aj b/\R (.bl b) G
   |none=>False))
 |[x,.ref C']=>(match exD G x with
  |some C=>∃b,ExC K C/\a06 K (.ref C) (.ref C')=aj b/\R (.bl b) G
  |none=>False)
 |_=>False
variable{x:D}
set_option tactic.hygienic true in
theorem aoT(h:exD G x=aj C):∃a,x=.ref a/\G a=aj (.exn C):=by
 cases x with
 |ref q =>
  refine⟨q,rfl,?_⟩
  have h':(match G q with
   |some (.exn C)=>aj C
   |_=>bh)=aj C:=h
  split at h'
  .rename_i e1;cases h';exact e1
  .cases h'
 |_=>cases h
variable{G:Gp}
theorem abX{C:bw}{c:aq}{b:Bool}(I:Inv X pins σ H s)(g:HR X.K H G)(e:G a=aj (.exn C))(hc:ExC X.K C)(hk:a06 X.K (.ref C) c=aj b)(q:R (.bl b) G)
  (k:∀v H' d G',Ts H H'->RD X.K H' d v->HR X.K H' G'->R d G'->Q v H'):dg (fj X.prog X.w) X.A (call (.builtin "isinstance") [.ref a,c]) (EP X pins σ Q) X.xe s:=by
 obtain⟨o0,vs0,z,_⟩:=g a _ e;obtain⟨_,z1,_,_⟩:=I.hok a _ z;exact xu (aoS hc) I.kIn z1 hk (λz=>nomatch z) λtk=>⟨.bl b,H,I.tok tk,rfl,k _ H _ G (.refl H) (.bl b) g q⟩
set_option tactic.hygienic true in
theorem aBT{vx:V}{u:aq}(I:Inv X pins σ H s)(rx:RD X.K H x vx)(ru:RelV vx u)(g:HR X.K H G)(e:tyD G x=aj T)(hn:n∈gA)(q:R (.bl (subB T n)) G)
  (k:∀v H' d G',Ts H H'->RD X.K H' d v->HR X.K H' G'->R d G'->Q v H'):dg (fj X.prog X.w) X.A (call (.builtin "isinstance") [u,.type n]) (EP X pins σ Q) X.xe s:=by
 have fin:∀tk,EP X pins σ Q (.bool (subB T n)) {s with toks:=tk}:=λtk=>⟨.bl _,H,I.tok tk,rfl,k _ H _ G (.refl H) (.bl _) g q⟩;cases rx with
 |non=>cases ru;cases e;exact xu PySem.W.kitx_none I.kIn True.intro (nO _ (by decide) hn) (λz=>nomatch z) fin
 |bl b=>cases ru;cases e;exact xu PySem.W.kitx_bool I.kIn True.intro (nO _ (by decide) hn) (λz=>nomatch z) fin
 |int i=>obtain⟨t,rfl⟩:=ru;cases e;exact xu PySem.W.kitx_int I.kIn True.intro (nO _ (by decide) hn) (λz=>nomatch z) fin
 |str i=>obtain⟨t,rfl⟩:=ru;cases e;exact xu PySem.W.kitx_str I.kIn True.intro (nO _ (by decide) hn) (λz=>nomatch z) fin
 |ty n=>cases e
 |@tup a xs ds ha ra =>
  cases ru;cases e;obtain⟨its,_,p,_⟩:=I.tuple ha;obtain⟨o,h1,h2,_⟩:=p;exact xu PySem.W.kitx_tuple I.kIn ⟨o,h1,h2⟩ (nO _ (by decide) hn) (λz=>nomatch z) fin
 |ref a =>
  cases ru
  have e':(match G a with
   |some (.lst _)=>aj "list"
   |some (.rol _)=>aj "list"
   |some (.bC _ _)=>aj "dict"
   |_=>bh)=aj T:=e
  split at e'
  .rename_i ds e1;cases e';obtain⟨xs,h1,_⟩:=bU g (show aY G a=aj ds by unfold aY;rw[e1]);obtain⟨its,_,p,_⟩:=I.list h1;obtain⟨o,n',h1,h2,_⟩:=p;exact xu PySem.W.kitx_list I.kIn ⟨o,h1,h2⟩ (nO _ (by decide) hn) (λz=>nomatch z) fin
  .rename_i ds e1;cases e';obtain⟨xs,h1,_⟩:=bU g (show aY G a=aj ds by unfold aY;rw[e1]);obtain⟨its,_,p,_⟩:=I.list h1;obtain⟨o,n',h1,h2,_⟩:=p;exact xu PySem.W.kitx_list I.kIn ⟨o,h1,h2⟩ (nO _ (by decide) hn) (λz=>nomatch z) fin
  .rename_i kvs e1;cases e';rcases g a _ e1 with⟨_,xs,h1,_⟩|⟨_,xs,h1,_⟩
   .obtain⟨_,_,vs,_,o,es,ep,h1,h2,_⟩:=I.hok a _ h1;exact xu PySem.W.kitx_dict I.kIn ⟨o,h1,h2.1⟩ (nO _ (by decide) hn) (λz=>nomatch z) fin
   .obtain⟨_,_,xs,_,o,es,ep,h1,h2,_⟩:=I.hok a _ h1;exact xu PySem.W.kitx_dict I.kIn ⟨o,h1,h2.1⟩ (nO _ (by decide) hn) (λz=>nomatch z) fin
  .cases e'
set_option tactic.hygienic true in
theorem abY:d8 X (.builtin "isinstance") (aM X.K):=by
 intro pins s σ H xs vs us G R Q I rx rv g q k;cases rx with
 |nil=>exact False.elim q
 |@cons x v ds ws r1 rr =>
  cases rr with
  |nil=>cases r1<;>exact False.elim q
  |@cons y v2 pN ws2 r2 rr2 =>
   cases rr2 with
   |cons _ _=>cases r2<;>exact False.elim q
   |nil =>
    obtain⟨u1,u2,rfl,ru1,ru2⟩:=vals2 rv;cases r2 with
    |ty n =>
     cases ru2
     have q':(match tyD G x with
      |some T=>n∈gA/\R (.bl (subB T n)) G
      |none=>(match exD G x with
       |some C=>∃b,ExC X.K C/\a06 X.K (.ref C) (.type n)=aj b/\R (.bl b) G
       |none=>False)):=q
     split at q'
     .rename_i T eT;exact aBT I r1 ru1 g eT q'.1 q'.2 k
     .split at q'
      .rename_i C eC;obtain⟨a,rfl,ea⟩:=aoT eC;obtain⟨b,hc,hk,q'⟩:=q';cases r1;cases ru1;exact abX I g ea hc hk q' k
      .exact q'.elim
    |ref C' =>
     cases ru2
     have q':(match exD G x with
      |some C=>∃b,ExC X.K C/\a06 X.K (.ref C) (.ref C')=aj b/\R (.bl b) G
      |none=>False):=q
     split at q'
     .rename_i C eC;obtain⟨a,rfl,ea⟩:=aoT eC;obtain⟨b,hc,hk,q'⟩:=q';cases r1;cases ru1;exact abX I g ea hc hk q' k
     .exact q'.elim
    |_=>exact False.elim q
end
end
variable{id:String}
section
theorem a6K{K:Fg}{x:D}(hx:scD x=ak)(rx:RD K H x vx):∀{ys:List D}{vs:List V},bW K H ys vs->ys.all scD=ak->vs.any (λy=>eqV y vx)=ys.any (λy=>eqP y x)
 |_,_,.nil,_=>rfl
 |_,_,.cons h r,hs=>by
  rw[yt,bx]at hs;rw[a0v,a0v,a6K hx rx r hs.2];congr 1;obtain⟨h1,_⟩:=hs;cases rx<;>cases h<;>first|(simp[eqV,eqP];done)|cases hx|cases h1
variable{x:D}
theorem a0F{K:Fg}(hx:scD x=ak)(rx:RD K H x vx):uF vx=ak:=by cases rx<;>first|rfl|cases hx
theorem vH{K:Fg}:∀{ys:List D}{vs:List V},bW K H ys vs->ys.all scD=ak->vs.all uF=ak
 |_,_,.nil,_=>rfl
 |_,_,.cons h r,hs=>by
  rw[yt,bx]at hs;rw[yt,a0F hs.1 h,vH r hs.2];rfl
def inG(G:Gp)(x y:D)(k:Bool->Prop):Prop:=match x,y with
 |.str i,.str j=>k (!(Builtin.Str.occurrences j i 0 j.length 1).isEmpty)
 |x,.tup ys=>scD x=ak/\ys.all scD=ak/\k (ys.any λy=>eqP y x)
 |x,.ref p=>(match aY G p with
  |some ys=>scD x=ak/\ys.all scD=ak/\k (ys.any λy=>eqP y x)
  |none=>False)
 |_,_=>False
noncomputable def aHZ:R3:=λx y G R=>inG G x y λb=>R (.bl b) G
noncomputable def ajQ:R3:=λx y G R=>inG G x y λb=>R (.bl (!b)) G
variable{o:jk}
section
variable{X:Cx}
set_option tactic.hygienic true in
theorem aMQ(hu:X.A.units+64<jl):jY X (jd .In) aHZ:=by
 refine⟨_,alV.or am2,λH x y vx vy G R Q rx ry g h k=>?_⟩;have h':inG G x y λb=>R (.bl b) G:=h;unfold inG at h';split at h'
 .cases rx;cases ry;exact .inl ⟨_,_,rfl,rfl,k _ H _ G (.refl H) (.bl _) g h'⟩
 .cases ry with
  |@tup a xs ds ha ra =>
   refine .inr ⟨a,xs,rfl,.inr ha,a0F h'.1 rx,vH ra h'.2.1,?_⟩;have e:inV vx xs=_:=a6K h'.1 rx ra h'.2.1;simp only[ou,if_false];rw[e];exact k _ H _ G (.refl H) (.bl _) g h'.2.2
 .cases ry;split at h'
  .rename_i ys e1;obtain⟨xs,hq,ra⟩:=bU g e1;refine .inr ⟨_,xs,rfl,.inl hq,a0F h'.1 rx,vH ra h'.2.1,?_⟩;have e:inV vx xs=_:=a6K h'.1 rx ra h'.2.1;simp only[ou,if_false];rw[e];exact k _ H _ G (.refl H) (.bl _) g h'.2.2
  .exact h'.elim
 .exact h'.elim
set_option tactic.hygienic true in
theorem auW(hu:X.A.units+64<jl):jY X (jd .NotIn) ajQ:=by
 refine⟨_,abH.or abN,λH x y vx vy G R Q rx ry g h k=>?_⟩;have h':inG G x y λb=>R (.bl (!b)) G:=h;unfold inG at h';split at h'
 .cases rx;cases ry;exact .inl ⟨_,_,rfl,rfl,k _ H _ G (.refl H) (.bl _) g h'⟩
 .cases ry with
  |@tup a xs ds ha ra =>
   refine .inr ⟨a,xs,rfl,.inr ha,a0F h'.1 rx,vH ra h'.2.1,?_⟩;have e:inV vx xs=_:=a6K h'.1 rx ra h'.2.1;simp only[if_true];rw[e];exact k _ H _ G (.refl H) (.bl _) g h'.2.2
 .cases ry;split at h'
  .rename_i ys e1;obtain⟨xs,hq,ra⟩:=bU g e1;refine .inr ⟨_,xs,rfl,.inl hq,a0F h'.1 rx,vH ra h'.2.1,?_⟩;have e:inV vx xs=_:=a6K h'.1 rx ra h'.2.1;simp only[if_true];rw[e];exact k _ H _ G (.refl H) (.bl _) g h'.2.2
  .exact h'.elim
 .exact h'.elim
noncomputable def abZ(T:String)(G:Gp):D->Prop
 |.str _=>T="str"
 |.ref p=>T="list"/\(aY G p).isSome=ak
 |_=>False
theorem aoU{K:Fg}(g:HR K H G)(r:RD K H x v)(h:abZ T G x):tyV K T v H:=by
 cases r with
 |str z=>exact h
 |ref p =>
  obtain⟨rfl,h⟩:=h;obtain⟨ds,e⟩:=a0r.mp h;obtain⟨xs,hq,_⟩:=bU g e;exact .inl ⟨rfl,xs,hq⟩
 |_=>exact False.elim h
abbrev RM3:=D->List D->Gp->fZ->Prop
noncomputable def a6L(X:Cx)(id:String)(r3:RM3):Prop :=
 ∀(pins:List (bw×Obj))(s:dh)(σ:St)(H:Hp)(x:D)(xs:List D)(vx:V)(vs:List V)(u:aq)(us:List aq)(G:Gp)(R:fZ)(Q:VK),Inv X pins σ H s->RD X.K H x vx->bW X.K H xs vs->RelV vx u->Vals vs us->HR X.K H G->r3 x xs G R ->
  (∀v H' d G',Ts H H'->RD X.K H' d v->HR X.K H' G'->R d G'->Q v H')->dg (fj X.prog X.w) X.A (call (.builtin id) (u::us)) (EP X pins σ Q) X.xe s
variable{r3:RM3}
theorem a6L.of(h:MtR X id r)(i:∀(H:Hp)(x:D)(xs:List D)(vx:V)(vs:List V)(G:Gp)(R:fZ)(Q:VK),RD X.K H x vx->bW X.K H xs vs->HR X.K H G->r3 x xs G R ->
  (∀v H' d G',Ts H H'->RD X.K H' d v->HR X.K H' G'->R d G'->Q v H')->r vx vs H λv H'=>KF X.K H'->Q v H'):a6L X id r3:=λpins s σ H x xs vx vs u us G R Q I rx rs ru rv g q k =>
 cR (h pins s σ H vx vs u us _ I ru rv (i H x xs vx vs G R Q rx rs g q k)) λ_ _ ⟨v,H',I',r,q'⟩=>⟨v,H',I',r,q' (nG I')⟩
noncomputable def tM3(T:String)(r:RM3)(to:bV)(t:sS):bV:=λρ G R=>to ρ G λx G1=>abZ T G1 x/\t ρ G1 λxs G2=>r x xs G2 R
noncomputable def aBU(T:String)(r:RM3)(to:bV):bV:=λρ G R=>to ρ G λx G1=>abZ T G1 x/\r x [] G1 R
theorem aI0{t:sS}{apos cpos:Pos}(pa:PlainAttrs T)(slot:Slot T name id)(hty:typeOf (.builtin id)=pure (.type "method_descriptor"))(hm:a6L X id r3)(ho:bY X o to)(ha:PA3 X (e::es) t)
  (hbase:uh o name X.env (eval o X.env)=eval o X.env:=by rfl)
  (hfew:((rm cpos (jg (e::es) X.env)).all (λx=>!x.1)&&(backToKw cpos (a0b [] X.env)).all (λx=>x.1.isSome)
   &&decide ((e::es).length+([]:List a0j).length+(if([]:List a0j).isEmpty then 0 else 1)<30))=ak:=by rfl)
  (hline:(apos.endLine==cpos.line)=ak:=by rfl)(hs:jg (e::es) X.env=(ao,eval e X.env)::jg es X.env:=by rfl)(hplain:(rm cpos (jg es X.env)).any (·.1)=ao:=by rfl) :
  bY X (.Call (.Attribute o name apos) (e::es) [] cpos) (tM3 T r3 to t):=by
 intro pins s σ H Q I h;obtain⟨ρ,G,R,sr,g,q,kk⟩:=h;refine wpAny_Call_method_late hbase hfew hline rfl (cR (ho pins s σ H (λvx H1=>Ts H H1/\∃x G1,RD X.K H1 x vx/\HR X.K H1 G1/\abZ T G1 x/\t ρ G1 λxs G2=>r3 x xs G2 R) I ⟨ρ,G,_,sr,g,q,λv H1 x G1 t1 r1 g1 q1=>⟨t1,x,G1,r1,g1,q1⟩⟩) ?_);rintro v s1 ⟨vx,H1,I1,r1,t1,x,G1,rx,g1,ty,q1⟩;obtain⟨h1,h2⟩:=aoC I1 r1 (aoU g1 rx ty);refine⟨T,id,pa,slot,hty,h1,h2,?_⟩;have hA:=ha cpos pins s1 σ H1 (λvs H2=>Ts H1 H2/\∃xs G2,bW X.K H2 xs vs/\HR X.K H2 G2/\r3 x xs G2 R) I1 ⟨ρ,G1,_,sr.mono t1,g1,q1,λvs H2 xs G2 t2 r2 g2 q2=>⟨t2,xs,G2,r2,g2,q2⟩⟩;rw[hs]at hA ⊢;refine Calls.callWith_builtin (by show(ao||(rm cpos (jg es X.env)).any (·.1))=ao;rw[hplain]<;>rfl) (Calls.evalArgs_plain ?_);exact cR hA (by rintro us s2 ⟨vs,H2,I2,r2,t2,xs,G2,rs,g2,q2⟩;exact hm pins s2 σ H2 x xs vx vs v us G2 R Q I2 (rx.mono t2) rs r1 r2 g2 q2 λv H' d G' t3=>kk v H' d G' ((t1.trans t2).trans t3))
theorem ayQ{apos cpos:Pos}(pa:PlainAttrs T)(slot:Slot T name id)(hty:typeOf (.builtin id)=pure (.type "method_descriptor"))(hm:a6L X id r3)(ho:bY X o to)
  (hbase:uh o name X.env (eval o X.env)=eval o X.env:=by rfl)(hline:(apos.endLine==cpos.line)=ak:=by rfl):bY X (.Call (.Attribute o name apos) [] [] cpos) (aBU T r3 to):=by
 intro pins s σ H Q I h;obtain⟨ρ,G,R,sr,g,q,kk⟩:=h;refine zx hbase hline (cR (ho pins s σ H (λvx H1=>Ts H H1/\∃x G1,RD X.K H1 x vx/\HR X.K H1 G1/\abZ T G1 x/\r3 x [] G1 R) I ⟨ρ,G,_,sr,g,q,λv H1 x G1 t1 r1 g1 q1=>⟨t1,x,G1,r1,g1,q1⟩⟩) ?_);rintro v s1 ⟨vx,H1,I1,r1,t1,x,G1,rx,g1,ty,q1⟩;obtain⟨h1,h2⟩:=aoC I1 r1 (aoU g1 rx ty);exact⟨T,id,pa,slot,hty,h1,h2,Calls.callWith_builtin rfl (PySem.evalArgs_none (hm pins s1 σ H1 x [] vx [] v [] G1 R Q I1 rx .nil r1 .nil g1 q1 λv H' d G' t3=>kk v H' d G' (t1.trans t3)))⟩
noncomputable def jM:RM3:=λx xs G R=>match x,xs with
 |.ref p,[d]=>(match G p with
  |some (.lst ds)=>ds.length<cu/\R .non (aH G p (.lst (ds++[d])))
  |_=>False)
 |_,_=>False
set_option tactic.hygienic true in
theorem ae8:a6L X "list.append" jM:=a6L.of a9Y λH x xs vx vs G R Q rx rs g q k=>by
 cases rx with
 |ref p =>
  cases rs with
  |nil=>exact False.elim q
  |@cons d v ds ws r rr =>
   cases rr with
   |cons _ _=>exact False.elim q
   |nil =>
    have q':(match G p with
     |some (.lst ds)=>ds.length<cu/\R .non (aH G p (.lst (ds++[d])))
     |_=>False):=q
    split at q'
    .rename_i ds e1;obtain⟨ys,f1,r1⟩:=g p _ e1;refine⟨p,ys,v,rfl,rfl,f1,by rw[←r1.length];exact q'.1,λ_=>?_⟩;have tt:Ts H (upd H p (.lst (ys++[v]))):=.turn f1 (λ_ z=>nomatch z) (λ_ _ z=>nomatch z);exact k _ _ _ _ tt .non (g.turn (u:=.lst (ds++[d])) tt ⟨_,aK,(r1.append (.cons r .nil)).mono tt⟩) q'.2
    .exact q'.elim
 |_=>cases rs<;>exact False.elim q
noncomputable def vI:bV:=λ_ G R=>∀p,G p=bh->R (.ref p) (aH G p (.bC ao []))
theorem aBV:bY X (.Dict [] [] pos) vI:=PE.imp (PE.kf ao8) λσ H Q h=>by
 obtain⟨ρ,G,R,s,g,q,k⟩:=h;intro p hp kf;have sn:Same H (upd H p (.dK [])):=bG hp;exact k _ _ _ _ (.same sn) (.ref p) (g.put (u:=.bC ao []) hp (.inl ⟨rfl,[],aK,.nil⟩)) (q p (gH g hp kf))
noncomputable def xC:bV:=λ_ G R=>∀p,G p=bh->R (.ref p) (aH G p (.bC ak []))
theorem auY:bY X (.Dict [] [] pos) xC:=PE.imp (PE.kf adR) λσ H Q h=>by
 obtain⟨ρ,G,R,s,g,q,k⟩:=h;intro p hp kf;have sn:Same H (upd H p (.dT [])):=bG hp;exact k _ _ _ _ (.same sn) (.ref p) (g.put (u:=.bC ak []) hp (.inr ⟨rfl,[],aK,.nil⟩)) (q p (gH g hp kf))
end
end
end L2
namespace L2
open PySem
theorem qK:ni "isinstance"=aj (.builtin "isinstance"):=by decide+kernel
theorem ac0:ni "len"=aj (.builtin "len"):=by decide+kernel
theorem aBW:ni "sum"=aj (.builtin "sum"):=by decide+kernel
theorem lC:ni "sorted"=aj (.builtin "sorted"):=by decide+kernel
theorem aoV:ni "int"=aj (.type "int"):=by decide+kernel
theorem auZ:ni "bool"=aj (.type "bool"):=by decide+kernel
theorem ae9:ni "tuple"=aj (.type "tuple"):=by decide+kernel
theorem ajR:ni "list"=aj (.type "list"):=by decide+kernel
theorem a5J:ni "dict"=aj (.type "dict"):=by decide+kernel
end L2
namespace L2
open PySem PySem.Spec PyProof.Rows
variable{cm:Bool}{p a:bw}{lo:Int}{n:Nat}{pos:Pos}
section
noncomputable def Its(x:Str):It:=⟨λi _=>i<x.cps.size,λi H v H'=>H'=H/\∃c,x.cps[i]?=aj c/\v=.str ⟨#[c]⟩,λi _=>x.cps.size<=i⟩
theorem aa4{w:jf}{K:iw}(it:bw)(x:Str)(t:Tok):Turn cm tl P w K tg (Its x) [it] it (λi h=>h.IsStrIter it "str_ascii_iterator" x t (min i x.cps.size)) where
 mem:=by simp
 obj:=λi h st b hb=>by
  have e:b=it:=by simpa using hb
  subst e;obtain⟨o,e,c,d⟩:=st;exact⟨o,e,λv z=>by rw[d]at z;cases z⟩
 keep:=λi h h' st k=>let⟨o,e,r⟩:=st;⟨o,k it (by simp) o e,r⟩
 item:=by
  intro X hP hw hK hcm ht i pins s σ H E I hf st hg;subst hP hw hK;obtain⟨f0,f1,f2,f3,f4,f5⟩:=hf it (by simp);have hi:i<x.cps.size:=hg;rw[a2o (ux hi)]at st;refine wpAny_pyNext_ascii_item st (c:=x.cps[i]) (by simp[hi]) λh' st' kk=>?_;have I1:Inv X pins σ H {s with heap:=h',toks:=s.toks+1}:=I.turned (λb o hb e=>(kk.2 b hb).trans e) f0 f1 f3 f4 f5;obtain⟨o,e1,c1,d1⟩:=id st';refine⟨_,rfl,a3S (s:={s with heap:=h',toks:=s.toks+1}) e1 c1 d1 (by decide) ⟨.str ⟨#[x.cps[i]]⟩,H,I1,⟨_,rfl⟩,⟨rfl,x.cps[i],by simp[hi],rfl⟩,?_,λb hb=>(hf b hb).1⟩⟩;rw[a2o hi];exact st'
 done:=by
  intro X hP hw hK hcm ht i pins s σ H E I hf st hg;subst hP hw hK;obtain⟨f0,f1,f2,f3,f4,f5⟩:=hf it (by simp);have hi:x.cps.size<=i:=hg;rw[Nat.min_eq_right hi]at st;exact alO (I.hnd.heap I.hok) st (by simp) λh' eb=>⟨rfl,I.turned (t':=s.toks) (λb o hb e=>eb b o hb e) f0 f1 f3 f4 f5⟩
 self:=λ_ _ _ _ _ st h=>wpAny_pyIter_striter_ascii st h
theorem aa5{w:jf}{K:iw}(it:bw)(x:Str)(t:Tok):Turn cm tl P w K tg (Its x) [it] it (λi h=>h.IsStrIter it "str_iterator" x t (min i x.cps.size)) where
 mem:=by simp
 obj:=λi h st b hb=>by
  have e:b=it:=by simpa using hb
  subst e;obtain⟨o,e,c,d⟩:=st;exact⟨o,e,λv z=>by rw[d]at z;cases z⟩
 keep:=λi h h' st k=>let⟨o,e,r⟩:=st;⟨o,k it (by simp) o e,r⟩
 item:=by
  intro X hP hw hK hcm ht i pins s σ H E I hf st hg;subst hP hw hK;obtain⟨f0,f1,f2,f3,f4,f5⟩:=hf it (by simp);have hi:i<x.cps.size:=hg;rw[a2o (ux hi)]at st;refine wpAny_pyNext_wide_item st (c:=x.cps[i]) (by simp[hi]) λh' st' kk=>?_;have I1:Inv X pins σ H {s with heap:=h',toks:=s.toks+1}:=I.turned (λb o hb e=>(kk.2 b hb).trans e) f0 f1 f3 f4 f5;obtain⟨o,e1,c1,d1⟩:=id st';refine⟨_,rfl,a3S (s:={s with heap:=h',toks:=s.toks+1}) e1 c1 d1 (by decide) ⟨.str ⟨#[x.cps[i]]⟩,H,I1,⟨_,rfl⟩,⟨rfl,x.cps[i],by simp[hi],rfl⟩,?_,λb hb=>(hf b hb).1⟩⟩;rw[a2o hi];exact st'
 done:=by
  intro X hP hw hK hcm ht i pins s σ H E I hf st hg;subst hP hw hK;obtain⟨f0,f1,f2,f3,f4,f5⟩:=hf it (by simp);have hi:x.cps.size<=i:=hg;rw[Nat.min_eq_right hi]at st;exact alP (I.hnd.heap I.hok) st (by simp) λh' eb=>⟨rfl,I.turned (t':=s.toks) (λb o hb e=>eb b o hb e) f0 f1 f3 f4 f5⟩
 self:=λ_ _ _ _ _ st h=>wpAny_pyIter_striter_wide st h
inductive Src where
 |lst (p:bw) (xs:List D)|imm (xs:List D)|zip (p q:bw) (xs ys:List D)|itm (p:bw) (o:Obj) (kvs:List (DK×D))|key (p:bw) (o:Obj) (t:Bool) (kvs:List (DK×D))|tpl (p:bw) (xs:List D)|enu (p:bw) (xs:List D)|nky (p:bw) (o:Obj) (kvs:List (NK×Int))
noncomputable def enm(xs:List D):List D:=xs.zipIdx.map λz=>.tup [.int z.2,z.1]
noncomputable def prs(xs ys:List D):List D:=(xs.zip ys).map λz=>.tup [z.1,z.2]
noncomputable def Src.items:Src->List D
 |.lst _ xs=>xs
 |.imm xs=>xs
 |.zip _ _ xs ys=>prs xs ys
 |.itm _ _ kvs=>kvs.map λz=>.tup [dkD z.1,z.2]
 |.key _ _ _ kvs=>kvs.map λz=>dkD z.1
 |.tpl _ xs=>xs
 |.enu _ xs=>enm xs
 |.nky _ _ kvs=>kvs.map λz=>nkD z.1
noncomputable def Src.ok(G:Gp):Src->Prop
 |.lst p xs=>aY G p=aj xs
 |.imm _=>True
 |.zip p q xs ys=>aY G p=aj xs/\aY G q=aj ys
 |.itm p o kvs=>G p=aj (.yM o ao kvs)
 |.key p o t kvs=>G p=aj (.yM o t kvs)
 |.tpl p xs=>G p=aj (.tpl xs)
 |.enu p xs=>G p=aj (.tpl xs)
 |.nky p o kvs=>G p=aj (.rnm o kvs)
def a95(K:Fg)(H1:Hp)(src:Src)(J:It):Prop:=∀H2 G2,Ts H1 H2->HR K H2 G2->src.ok G2 ->
 (∀i,i<src.items.length->J.go i H2)/\(∀i v H',i<src.items.length->J.yld i H2 v H'->Same H2 H'/\∃d,src.items[i]?=aj d/\RD K H' d v)/\J.stop src.items.length H2
abbrev TI3:=aO->Gp->(Src->Gp->Prop)->Prop
noncomputable def upI(K:Fg)(t:TI3):TI:=λσ H Q=>∃ρ G R,SR K H ρ σ/\HR K H G/\t ρ G R/\∀src J H' G',Ts H H'->HR K H' G'->a95 K H' src J->R src G'->Q J H'
abbrev PI3(X:Cx)(tg iter:jk)(t:TI3):Prop:=PI X tg iter (upI X.K t)
noncomputable def signs(z:Str):List D:=z.cps.toList.map λc=>.str ⟨#[c]⟩
noncomputable def a2C(te:bV):TI3:=λρ G R=>te ρ G λx G1=>match x with
 |.ref p=>(match aY G1 p with
  |some xs=>R (.lst p xs) G1
  |none=>False)
 |.tup xs=>R (.imm xs) G1
 |.str z=>R (.imm (signs z)) G1
 |_=>False
theorem aa6{K:Fg}:a95 K H1 (.lst p xs) (Itl K p):=λH2 G2 t g ok=>by
 obtain⟨vs,hq,rv⟩:=bU g (show aY G2 p=aj xs from ok);refine⟨λi hi=>?_,λi v H' hi hy=>?_,⟨vs,hq,a1U rv.length.symm⟩⟩
 .have hi':i<xs.length:=hi;obtain⟨y,e1,_⟩:=rv.get (gV hi');exact⟨vs,y,hq,e1⟩
 .obtain⟨rfl,hy⟩:=hy;obtain⟨d,e1,e2⟩:=rv.am9 (hy vs hq);exact⟨.refl _,d,e1,e2⟩
theorem aeA{K:Fg}(hq:yK K H1 a vs)(rv:bW K H1 xs vs):a95 K H1 (.imm xs) (Itt K a):=λH2 G2 t g ok=>by
 have hq2:=t.sqT hq;have rv2:=rv.mono t;refine⟨λi hi=>?_,λi v H' hi hy=>?_,⟨vs,hq2,a1U rv.length.symm⟩⟩
 .have hi':i<xs.length:=hi;obtain⟨y,e1,_⟩:=rv2.get (gV hi');exact⟨vs,y,hq2,e1⟩
 .obtain⟨rfl,hy⟩:=hy;obtain⟨d,e1,e2⟩:=rv2.am9 (hy vs hq2);exact⟨.refl _,d,e1,e2⟩
theorem a6N{K:Fg}:a95 K H1 (.imm (signs z)) (Its z):=λH2 G2 t g ok=>by
 have hl:(signs z).length=z.cps.size:=by simp[signs]
 refine⟨λi hi=>?_,λi v H' hi hy=>?_,?_⟩
 .have:i<(signs z).length:=hi;rw[hl]at this;exact this
 .obtain⟨rfl,c,hc,rfl⟩:=hy;exact⟨.refl _,.str ⟨#[c]⟩,by simp[Src.items,signs,hc],.str _⟩
 .show z.cps.size<=(signs z).length;rw[hl];exact dz _
theorem aeB{K:Fg}:a95 K H1 (.imm ((jw n).map λ(i:Nat)=>.int (lo+(i:Int)))) (Itr lo n):=λH2 G2 t g ok=>by
 refine⟨λi hi=>?_,λi v H' hi hy=>?_,?_⟩
 .have hi':i<n:=by simpa[Src.items]using hi
  exact hi'
 .obtain⟨rfl,rfl⟩:=hy;have hi':i<n:=by simpa[Src.items]using hi
  exact⟨.refl _,.int (lo+i),by simp[Src.items,hi'],.int _⟩
 .show n<=_;simp[Src.items]
section
variable{X:Cx}
theorem PI.imp{t:TI}(h:PI X tg e t)(k:∀σ H Q,t' σ H Q->t σ H Q):PI X tg e t':=λpins s σ H Q I q=>h pins s σ H Q I (k _ _ _ q)
set_option tactic.hygienic true in
theorem aI1(hl:bY X l te):PI3 X tg l (a2C te):=by
 intro pins s σ H R I h;obtain⟨ρ,G,R3,sr,g,q,k⟩:=h
 refine cR (hl pins s σ H (λv H1=>Ts H H1/\∃x G1,RD X.K H1 x v/\HR X.K H1 G1/\(match x with
  |.ref p=>(match aY G1 p with
   |some xs=>R3 (.lst p xs) G1
   |none=>False)
  |.tup xs=>R3 (.imm xs) G1
  |.str z=>R3 (.imm (signs z)) G1
  |_=>False)) I ⟨ρ,G,_,sr,g,q,λv H1 x G1 t1 r g1 q1=>⟨t1,x,G1,r,g1,q1⟩⟩) λv s1 ⟨x,H1,I1,r1,t1,d,G1,rd,g1,q1⟩=>?_
 cases rd with
 |ref a =>
  have q1':(match aY G1 a with
   |some xs=>R3 (.lst a xs) G1
   |none=>False):=q1
  split at q1'
  .rename_i xs e;cases r1;obtain⟨vs,hq,rv⟩:=bU g1 e;obtain⟨its,rv',p,hz⟩:=I1.list hq;refine a2d p.isList ?_;refine⟨s1.heap.objs.size,[s1.heap.objs.size],_,_,H1,rfl,I1.kept (t':=s1.toks) λb o e=>cg _ e,a9S a _,⟨_,ig _ rfl,rfl,rfl⟩,λb hb=>?_,k _ _ H1 G1 t1 g1 aa6 q1'⟩;have e:b=s1.heap.objs.size:=by simpa using hb
   subst e;exact I1.a08 (dz _) (I1.hok.fresh (dz _))
  .exact q1'.elim
 |@tup a vs xs hq rv =>
  cases r1;obtain⟨its,rv',p,hz⟩:=I1.tuple hq;refine wpAny_pyIter_tuple (show s1.heap.IsTuple a its.toArray from p) ?_;refine⟨s1.heap.objs.size,[s1.heap.objs.size],_,_,H1,rfl,I1.kept (t':=s1.toks) λb o e=>cg _ e,a65 a _,⟨_,ig _ rfl,rfl,rfl⟩,λb hb=>?_,k _ _ H1 G1 t1 g1 (aeA hq rv) q1⟩;have e:b=s1.heap.objs.size:=by simpa using hb
  subst e;exact I1.a08 (dz _) (I1.hok.fresh (dz _))
 |str z =>
  obtain⟨t,rfl⟩:=r1;cases ha:z.cps.all (· <128)
  .refine wpAny_pyIter_wide ha ?_;refine⟨s1.heap.objs.size,[s1.heap.objs.size],_,_,H1,rfl,I1.kept (t':=s1.toks) λb o e=>cg _ e,aa5 _ z t,?_,λb hb=>?_,k _ _ H1 G1 t1 g1 a6N q1⟩
   .rw[Nat.zero_min];exact⟨_,ig _ rfl,rfl,rfl⟩
   .have e:b=s1.heap.objs.size:=by simpa using hb
    subst e;exact I1.a08 (dz _) (I1.hok.fresh (dz _))
  .refine wpAny_pyIter_ascii ha ?_;refine⟨s1.heap.objs.size,[s1.heap.objs.size],_,_,H1,rfl,I1.kept (t':=s1.toks) λb o e=>cg _ e,aa4 _ z t,?_,λb hb=>?_,k _ _ H1 G1 t1 g1 a6N q1⟩
   .rw[Nat.zero_min];exact⟨_,ig _ rfl,rfl,rfl⟩
   .have e:b=s1.heap.objs.size:=by simpa using hb
    subst e;exact I1.a08 (dz _) (I1.hok.fresh (dz _))
 |_=>exact q1.elim
noncomputable def a96(lo hi:Int):List D:=(jw (hi - lo).toNat).map λ(i:Nat)=>.int (lo+(i:Int))
noncomputable def a2D(ta:sS):TI3:=λρ G R=>ta ρ G λxs G1=>match xs with
 |[.int j]=>-(2^62)<=j/\j<2^62/\R (.imm (a96 0 j)) G1
 |_=>False
theorem aBY{a:jk}{p:Pos}(hg:Gl X "range")(hm:X.mg "range"=bh)(ha:PA3 X [a] ta)(hs:jg [a] X.env=[(ao,eval a X.env)]):PI3 X tg (.Call (.Name "range" p) [a] [] pos) (a2D ta) :=
 PI.imp (a9T hg hm ha hs) λσ H Q h=>by
 obtain⟨ρ,G,R,s,g,q,k⟩:=h;refine⟨ρ,G,_,s,g,q,λvs H1 ds G1 t1 r g1 h1=>?_⟩;cases r with
 |nil=>exact h1.elim
 |cons r rr =>
  cases rr with
  |cons _ _=>cases r<;>exact False.elim h1
  |nil =>
   cases r with
   |int j =>
    obtain⟨l1,l2,h1⟩:=h1;refine⟨j,rfl,l1,l2,k _ _ H1 G1 t1 g1 ?_ h1⟩;unfold a96;rw[show(j - 0).toNat=j.toNat by omega];exact aeB
   |_=>exact False.elim h1
end
end
variable{env:Env}{j:Nat}
section
noncomputable def o9(cells:List (Str×bw)):List (Str×vm)->List (Str×bw)->List (Str×bw)
 |[],cs=>cs
 |(n,k)::r,cs=>o9 cells r (if k=.free then(match cells.lookup n with
  |some a=>(n,a)::cs
  |none=>cs)else cs)
theorem a2E{scope:yp}(h:∀y∈scope.names,y.2=.free->∃c,env.cells.lookup y.1=aj c):closureFor scope env=pure (o9 env.cells scope.names []):=by
 unfold closureFor
 have all:∀(l:List (Str×vm))(cs:List (Str×bw)),(∀y∈l,y.2=.free->∃c,env.cells.lookup y.1=aj c) ->
   (forIn l cs λ(x:Str×vm)(r:List (Str×bw))=>(if(x.2==vm.free)=ak then do
    let a ←cellOf env x.1
    pure (ForInStep.yield ((x.1,a)::r))else pure (ForInStep.yield r):Sem (ForInStep (List (Str×bw)))))=(pure (o9 env.cells l cs):Sem (List (Str×bw))):=by
  intro l
  induction l with
  |nil=>intro cs _;rfl
  |cons y r ih =>
   intro cs hl;obtain⟨n,k⟩:=y;rw[List.forIn_cons];by_cases hk:k=.free
   .subst hk;obtain⟨c,hc⟩:=hl (n,.free) (by simp) rfl;have e:cellOf env n=pure c:=by unfold cellOf;rw[hc]
    simp only[beq_self_eq_true,if_true,e];show(forIn r ((n,c)::cs) _:Sem _)=_;rw[ih _ λy hy=>hl y (by simp[hy])];simp only[o9,if_true,hc]
   .have hk':(k==vm.free)=ao:=by simpa using hk
    simp only[hk',ou,if_false];show(forIn r cs _:Sem _)=_;rw[ih _ λy hy=>hl y (by simp[hy])];simp only[o9,if_neg hk]
 have z:=all scope.names [] h;exact congrArg (λm=>m >>= λcs=>pure cs) z
set_option tactic.hygienic true in
theorem jC{cells:List (Str×bw)}:∀{l:List (Str×vm)}{cs:List (Str×bw)}{y:Str}{c:bw},(o9 cells l cs).lookup y=aj c->(∀c,cs.lookup y=aj c->cells.lookup y=aj c)->cells.lookup y=aj c
 |[],cs,y,c,h,k=>k c h
 |(n,kd)::r,cs,y,c,h,k=>by
  unfold o9 at h;refine jC h λc' h'=>?_;by_cases hk:kd=.free
  .rw[if_pos hk]at h';split at h'
   .rename_i a ha;rw[ud]at h';split at h'
    .rename_i e;have e':y=n:=beq_iff_eq.mp e;subst e';rw[ha];exact h'
    .exact k c' h'
   .exact k c' h'
  .rw[if_neg hk]at h';exact k c' h'
theorem a6O{cells:List (Str×bw)}:∀{l:List (Str×vm)}{cs:List (Str×bw)}{y:Str},(∃c,cs.lookup y=aj c)->∃c,(o9 cells l cs).lookup y=aj c
 |[],cs,y,h=>h
 |(n,kd)::r,cs,y,h=>by
  unfold o9;refine a6O ?_;by_cases hk:kd=.free
  .rw[if_pos hk];split
   ·rw[ud];split
    ·exact⟨_,rfl⟩
    .exact h
   .exact h
  .rw[if_neg hk];exact h
theorem a2F{cells:List (Str×bw)}(hc:cells.lookup y=aj c):∀{l:List (Str×vm)}{cs:List (Str×bw)},(y,vm.free)∈l->∃c,(o9 cells l cs).lookup y=aj c
 |[],cs,h=>by simp at h
 |(n,kd)::r,cs,h=>by
  unfold o9;rcases je.mp h with e|h
  .cases e;refine a6O ?_;rw[if_pos rfl,hc];simp
  .exact a2F hc h
set_option tactic.hygienic true in
theorem mem_of_lookup{α:Type}:∀{l:List (Str×α)}{y:Str}{k:α},l.lookup y=aj k->(y,k)∈l
 |[],_,_,h=>by simp at h
 |(n,kd)::r,y,k,h=>by
  rw[ud]at h;split at h
  .rename_i e;have e':y=n:=beq_iff_eq.mp e;cases h;subst e';simp
  .exact jq _ (mem_of_lookup h)
structure zH(X:Cx)(xs:List Str)(scope:yp):Prop where
 kind:scope.kind=.function
 ahK:∀y∈scope.names,y.2≠.cell
 locs:∀y∈scope.names,y.2=.local->scope.names.lookup y.1=aj .local
 var:∀x∈xs,scope.names.lookup x=aj .local
 frees:∀y∈scope.names,y.2=.free->X.env.kindOf y.1=aj .cell∨X.env.kindOf y.1=aj .free
 out:∀x∈xs,x∉X.N
 nd:xs.Nodup
 only:∀y∈X.N,scope.names.lookup y≠aj .local
noncomputable abbrev qL(X:Cx)(xs:List Str)(scope:yp)(C:bw)(s₃:dh)(H₃:Hp)(fp:List bw)(pins:List (bw×Obj)):Cx :=
 {X with N:=xs++X.N,s₀:=s₃,H₀:=H₃,env:=compEnvC scope (o9 X.env.cells scope.names []) C X.env,outer:=X.stack,stack:=X.stack,ex:=fp,fn:=λ_=>ao,pn:=X.pn++pins,xe:=λ_ _=>False}
noncomputable def nn(xs:List Str)(σ:St):St:=xs.map (λ_=>bh)++σ
theorem aoX{xs:List Str}{i:Nat}{v:V}(h:(nn xs σ)[i]?=aj (aj v)):∃j,i=xs.length+j/\σ[j]?=aj (aj v):=by
 unfold nn at h;by_cases c:i<xs.length
 .rw[a0o (by simpa using c)]at h;simp at h
 .rw[yq (by simpa using c)]at h;exact⟨i - xs.length,by omega,by simpa using h⟩
theorem ajS{α:Type}{xs ys:List α}:(xs++ys)[xs.length+j]?=ys[j]?:=by
 rw[yq (by omega)];congr 1;omega
theorem dZ{env:Env}{k:vm}:∀{names:List (Str×vm)},(names.map λ(n,k)=>if(k==.free&&env.scope.kind==.function&&env.kindOf n==aj .cell)then(n,.cell)else(n,k)).lookup y=aj k ->
  ∃k',names.lookup y=aj k'/\(k=k'∨(k=.cell/\k'=.free))
 |[],h=>by simp at h
 |(n,kd)::r,h=>by
  rw[iy]at h;by_cases hc:(kd==.free&&env.scope.kind==.function&&env.kindOf n==aj .cell)=ak
  .have h':xq y ((n,vm.cell)::(r.map λ(n,k)=>if(k==.free&&env.scope.kind==.function&&env.kindOf n==aj .cell)then(n,.cell)else(n,k)))=aj k:=by
    simp only[hc,if_true]at h;exact h
   rw[ud]at h' ⊢;cases hx:y==n with
   |true =>
    rw[hx]at h';cases h';refine⟨kd,rfl,.inr ⟨rfl,?_⟩⟩;simp only[bx,beq_iff_eq]at hc;exact hc.1.1
   |false =>
    rw[hx]at h';exact dZ h'
  .have h':xq y ((n,kd)::(r.map λ(n,k)=>if(k==.free&&env.scope.kind==.function&&env.kindOf n==aj .cell)then(n,.cell)else(n,k)))=aj k:=by
    simp only[hc,if_false]at h;exact h
   rw[ud]at h' ⊢;cases hx:y==n with
   |true =>
    rw[hx]at h';cases h';exact⟨_,rfl,.inl rfl⟩
   |false =>
    rw[hx]at h';exact dZ h'
end
variable{b:bw}{tk:Nat}
section
section
variable{X:Cx}{pins:List (bw×Obj)}{s:dh}
theorem ac1(I:Inv X pins σ H s)(hb:b∈frs X.stack):b=X.env.locals∨b∈X.fs:=je.mp (I.agY b hb)
theorem aBZ(I:Inv X pins σ H s)(c:zH X xs scope)(hC:s.heap.objs.size<=C)(hf:∀b∈fp,a1W X pins H b/\b<s.heap.objs.size):(qL X xs scope C s H fp pins).Ok where
 mod:=I.ok.mod
 kind:=c.kind
 glob:=I.ok.glob
 blt:=I.ok.blt
 above:=hC
 inj:=λy z d h1 h2=>I.ok.inj y z d (jC h1 λ_ h=>by simp at h) (jC h2 λ_ h=>by simp at h)
 has:=λy h=>by
  have hy:(y,vm.free)∈scope.names:=by
   rcases h with h|h
   .obtain⟨k',e,z⟩:=dZ (env:=X.env) (names:=scope.names) h;rcases z with z|⟨_,z⟩
    .subst z;exact absurd rfl (c.ahK _ (mem_of_lookup e))
    .subst z;exact mem_of_lookup e
   .obtain⟨k',e,z⟩:=dZ (env:=X.env) (names:=scope.names) h;rcases z with z|⟨z,_⟩
    .subst z;exact mem_of_lookup e
    .cases z
  obtain⟨d,hd⟩:=I.ok.has y (c.frees _ hy rfl);exact a2F hd hy
 cab:=λ_ _ h=>absurd h (by simp)
 hd:=I.ok.hd
 frames:=I.ok.frames
 stk:=.inl rfl
 exf:=λb hb=>by
  obtain⟨⟨f0,f1,f2,f3,f4,f5⟩,lt⟩:=hf b hb;exact⟨jc (jm lt hC),λy d h=>f4 y d (jC h λ_ h=>by simp at h)⟩
 bs:=λb o e=>I.bs b o e
 bsz:=qj I.ok.bsz I.sz
 abC:=λb o e hb=>by
  obtain⟨⟨f0,f1,f2,f3,f4,f5⟩,lt⟩:=hf b hb;rcases f3 with z|z
  .exact I.ok.abC b o e z
  .exact absurd (jm (gw e) (qj I.ok.bsz z)) (ur _)
 adK:=λb hb hs=>by
  obtain⟨⟨f0,f1,f2,f3,f4,f5⟩,lt⟩:=hf b hb;rcases ac1 I hs with z|z
  .exact f1 z
  .exact f2 z
 uT:=I.stack
 frf:=λb hb=>I.abD b hb
theorem aC0(I:Inv X pins σ H s)(c:zH X xs scope)(hC:s.heap.objs.size=C)(hf:∀b∈fp,a1W X pins H b/\b<s.heap.objs.size){h₁:jj}{m:Str->Option aq}(hn:h₁.Ns C m)(hk:∀b o,s.heap.get? b=aj o->h₁.get? b=aj o) :
  Inv (qL X xs scope C s H fp pins) [] (nn xs σ) H {s with heap:=h₁,toks:=tk}:=by
 have lt:∀b o,s.heap.get? b=aj o->b≠C:=λb o e=>by rw[←hC];exact jc (gw e)
 refine⟨aBZ I c (a1U hC) hf,rfl,I.bare,Un.kept hk,⟨m,hn,λi y v e1 e2 e3=>?_⟩,λy d e=>?_,I.hok.fresh (a1U hC),λy d e=>I.nF y d (jC e λ_ h=>by simp at h),λp hp=>?_,I.hok.kept hk,by simp[nn,I.len],I.hnd,I.tup⟩
 .obtain⟨i,rfl,e2'⟩:=aoX e2
  .have e1':X.N[i]?=aj y:=ajS.symm.trans e1;have hy:y∈X.N:=jx e1'
   have free:(y,vm.free)∈scope.names:=by
    have e3':∃k,(relabel scope X.env).names.lookup y=aj k/\(k=.local∨k=.cell∨k=.free):=by
     rcases e3 with h|h|h
     .exact⟨_,h,.inl rfl⟩
     .exact⟨_,h,.inr (.inl rfl)⟩
     .exact⟨_,h,.inr (.inr rfl)⟩
    obtain⟨k,h,hk⟩:=e3';obtain⟨k',e,z⟩:=dZ (env:=X.env) (names:=scope.names) h;rcases z with z|⟨_,z⟩
    .subst z;rcases hk with rfl|rfl|rfl
     .exact absurd e (c.only y hy)
     .exact absurd rfl (c.ahK _ (mem_of_lookup e))
     .exact mem_of_lookup e
    .subst z;exact mem_of_lookup e
   have hkd:=c.frees _ free rfl;obtain⟨m',hn',hlo⟩:=I.loc;have vis:Vis X.env.scope y:=hkd.elim (λz=>.inr (.inl z)) λz=>.inr (.inr z);obtain⟨u,r,l⟩:=hlo i y v e1' e2' vis;refine⟨u,r,.inr ⟨?_,?_⟩⟩
   .rcases e3 with h|h|h
    .obtain⟨k',e,z⟩:=dZ (env:=X.env) (names:=scope.names) h;rcases z with z|⟨z,_⟩
     .subst z;exact absurd e (c.only y hy)
     .cases z
    .exact .inl h
    .exact .inr h
   .rcases l with⟨hl,_⟩|⟨_,d,hd,hcell⟩
    .rcases hkd with z|z
     .rw[z]at hl;cases hl
     .rw[z]at hl;cases hl
    .obtain⟨d',hd'⟩:=a2F (cells:=X.env.cells) (l:=scope.names) (cs:=[]) hd free;have:=jC hd' λ_ h=>by simp at h
     rw[hd]at this;cases this;refine⟨d,hd',?_⟩;obtain⟨o,ho,hod⟩:=hcell;exact⟨o,hk _ _ ho,hod⟩
 .obtain⟨w,o,ho,hod⟩:=I.cell y d (jC e λ_ h=>by simp at h);exact⟨w,o,hk _ _ ho,hod⟩
 .have hp':p∈X.pn++pins:=by simpa using hp
  obtain⟨e,n,ne,nf,d⟩:=I.pin p hp';refine⟨hk _ _ e,n,lt _ _ e,λz=>?_,d⟩;rcases ac1 I z with z|z
  .exact ne z
  .exact nf z
theorem av1(I:Inv X pins σ H s)(hC:s.heap.objs.size=C)(hf:∀b∈fp,a1W X pins H b/\b<s.heap.objs.size){s':dh}(J:Inv (qL X xs scope C s H fp pins) a9R σ' H' s')(hs:jz C s'.heap h') :
  Inv X pins σ H' {s' with heap:=h',toks:=tk}:=by
 have ne:∀b o,s.heap.get? b=aj o->b≠C:=λb o e=>by rw[←hC];exact jc (gw e)
 have u:Un (frs X.stack) fp H H' s.heap s'.heap:=J.base;have hfree:H' C=bh:=J.free;refine I.call' (ch:=fp) J.os ⟨λb o e n hb hx=>?_,λb o e n hb hx=>?_,u.free,λb o e hx=>?_,u.tups,u.jK,u.sV⟩ (λb o e=>?_) J.bare (λb hb=>?_)
 .exact(hs.2 b (ne b o e)).trans (u.keep b o e n hb hx)
 .obtain⟨sl,e1⟩:=u.slot b o e n hb hx;exact⟨sl,(hs.2 b (ne b o e)).trans e1⟩
 .obtain⟨o',e1⟩:=u.there b o e hx;exact⟨o',(hs.2 b (ne b o e)).trans e1⟩
 .refine(J.hok b o e).stay (λd w hd q=>(hs.2 d ?_).trans q) (λ_ q=>q) λ_ _ q=>q;rintro rfl;rcases hd with z|z
  .rw[z]at hfree;rw[e]at hfree;cases hfree
  .rw[hfree]at z;cases z
 .obtain⟨⟨f0,f1,f2,f3,f4,f5⟩,lt⟩:=hf b hb;exact⟨f3,f1,f4,f5⟩
end
end
variable{pins:List (bw×Obj)}{s:dh}{A:jr}
section
noncomputable def qM:yN:=λ_ G R=>R ak G
noncomputable def aoY(X:Cx)(ifs:List jk)(tc:yN):Prop :=
 ∀(pins:List (bw×Obj))(s:dh)(σ:St)(H:Hp)(Q:Bool->Hp->Prop),Inv X pins σ H s->upT X.K tc σ H Q ->
  dg (fj X.prog X.w) X.A (forIn ifs ak λc r=>if r=ak then do let ok ←isTrue c X.env (eval c X.env);pure (ForInStep.yield ok)else pure (ForInStep.yield r)) (TP X pins σ Q) X.xe s
theorem av2:aoY X [] qM:=λpins s σ H Q I h=>by
 obtain⟨ρ,G,R,sr,g,q,k⟩:=h;exact cj ⟨H,I,k ak H G (.refl H) g q⟩
theorem av3(hc:PT3 X c tc):aoY X [c] tc:=λpins s σ H Q I h=>by
 rw[List.forIn_cons];simp only[if_true];refine au (au (cR (hc pins s σ H Q I h) λb s1 q=>?_));exact cj (cj q)
section
variable{X:Cx}{x:Str}{xs:List Str}{tgt:jk}{dv:D->Option (List D)}{scope:yp}{iter elt:jk}{ifs:List jk}{pos:Pos}{ti:TI3}{tc:yN}{te:bV}
structure aC1(X:Cx)(pins:List (bw×Obj))(H':Hp)(C:bw)(h:jj):Prop where
 ns:∃m,h.Ns C m
 free:H' C=bh
 loc:C≠X.env.locals
 young:X.s₀.heap.objs.size<=C
 cells:∀y d,X.env.cells.lookup y=aj d->d≠C
 pins:∀p∈X.pn++pins,p.1≠C
theorem aC1.turn{X:Cx}(o:aC1 X pins H' C s.heap)(I:Inv X pins σ H' s)(hs:jz C s.heap h'):Inv X pins σ H' {s with heap:=h' } :=
 I.turned (t':=s.toks) (λb ob hb e=>(hs.2 b hb).trans e) o.free o.loc (.inr o.young) o.cells o.pins
def aC2(Y:Cx)(tgt:jk)(xs:List Str)(dv:D->Option (List D))(σ:St):Prop:=∀(pins:List (bw×Obj))(s:dh)(H:Hp)(v:V)(u:aq)(d:D)(ds:List D),Inv Y pins (nn xs σ) H s->RelV v u->RD Y.K H d v->dv d=aj ds ->
 dg (fj Y.prog Y.w) Y.A (assign tgt Y.env u) (λ_ s'=>∃vs,bW Y.K H ds vs/\Inv Y pins (vs.map aj++σ) H s') Y.xe s
theorem aoZ{K:Fg}(s:SR K H ρ σ):∀{ds:List D}{vs:List V},bW K H ds vs->SR K H (ds.map aj++ρ) (vs.map aj++σ)
 |_,_,.nil=>s
 |_,_,.cons h r=>.some h (aoZ s r)
set_option tactic.hygienic true in
theorem ap0{prog:jo}{w:jf}{elt iter:jk}{ifs:List jk}{scope:yp}(J:Nat->dh->Prop)
  (turn:∀n s,J n s->dg (fj prog w) A (a0c it) (λr s1=>match r with
   |none=>R (.ok .next) s1
   |some v=>dg (fj prog w) A (a1t target it v) (λ_ s1'=>dg (fj prog w) A (assign target env v) (λ_ s2 =>
     dg (fj prog w) A (forIn ifs ak λc r=>if r=ak then do let ok ←isTrue c env (eval c env);pure (ForInStep.yield ok)else pure (ForInStep.yield r)) (λok s3 =>
      if ok=ak then dg (fj prog w) A (eval elt env) (λx s4 =>
         dg (fj prog w) A (call (.builtin "list.append") [acc,x]) (λ_ s5=>∃m,m<n/\J m s5) (notedBy (fj prog w) A env λe s'=>R (.error e) s') s4) (notedBy (fj prog w) A env λe s'=>R (.error e) s') s3
      else ∃m,m<n/\J m s3) (notedBy (fj prog w) A env λe s'=>R (.error e) s') s2) (notedBy (fj prog w) A env λe s'=>R (.error e) s') s1') (notedBy (fj prog w) A env λe s'=>R (.error e) s') s1) (notedBy (fj prog w) A env λe s'=>R (.error e) s') s)
  (n:Nat)(h:J n s):a0u (fj prog w) A (.compLoop (.ListComp elt [⟨target,iter,ifs,0⟩] scope pos) 0 it acc env) R s:=by
 refine codeAny_loop rfl J (λn s hJ=>?_) n h;show dg _ A ((compTurn (.ListComp elt [⟨target,iter,ifs,0⟩] scope pos) 0 it acc env).onRaise (λz=>do noteFrame z env;theTreesLotGoes z)) _ _ s;refine wpAny_noted ?_;rw[compTurn_list];refine au (wpAny_standAt (au (qm (turn n s hJ) (λr s1 h1=>?_) λ_ _ z=>z)));cases r with
 |none=>exact cj h1
 |some v =>
  refine au (qm h1 (λ_ s1' h1'=>?_) λ_ _ z=>z);refine au (qm h1' (λ_ s2 h2=>au (qm h2 (λok s3 h3=>?_) λ_ _ z=>z)) λ_ _ z=>z);cases ok with
  |false=>exact cj ⟨rfl,h3⟩
  |true=>exact au (au (qm h3 (λx s4 h4=>au (qm h4 (λ_ s5 h5=>cj (cj ⟨rfl,h5⟩)) λ_ _ z=>z)) λ_ _ z=>z))
set_option tactic.hygienic true in
theorem amG(c:zH X xs scope)(hT:∀C s H fp pins σ,aC2 (qL X xs scope C s H fp pins) tgt xs dv σ)(hdv:∀d ds,dv d=aj ds->ds.length=xs.length)(hc:∀C s H fp pins,aoY (qL X xs scope C s H fp pins) ifs tc)(he:∀C s H fp pins,bY (qL X xs scope C s H fp pins) elt te){s2:dh}{σ:St}{H H2:Hp}{ρ:aO}{G1:Gp}{R:fZ}{it:bw}{fp:List bw}{tn:Nat->jj->Prop}{J:It}{src:Src}{RR:aq->bw->Result->dh->Prop}(sr:SR X.K H ρ σ)(I2:Inv X pins σ H2 s2)(T:Turn X.calm X.tp X.prog X.w X.K tgt J fp it tn)(st2:tn 0 s2.heap)(f2:∀b∈fp,a1W X pins H2 b)(t1:Ts H H2)(g1:HR X.K H2 G1)(sj:a95 X.K H2 src J)
  (hlen:src.items.length<cu)(body:∀p,G1 p=bh->∃P:Nat->List D->Gp->Prop,P 0 [] (aH G1 p (.lst [])) /\
   (∀k ds G,k<=src.items.length->P k ds G->src.ok G/\G p=aj (.lst ds)/\ds.length<=k) /\
   (∀k d ds G,src.items[k]?=aj d->P k ds G->∃ys,dv d=aj ys/\tc (ys.map aj++ρ) G λb G2=>if b=ak then te (ys.map aj++ρ) G2 λy G3=>G3 p=aj (.lst ds)/\P (k+1) (ds++[y]) (aH G3 p (.lst (ds++[y])))else P (k+1) ds G2) /\
   ∀ds G,P src.items.length ds G->∃G0,Le G0 G/\R (.ref p) G0)
  (hRR:∀Da C s5 H' G0,Inv X pins σ H' s5->aC1 X pins H' C s5.heap->Ts H H'->HR X.K H' G0->R (.ref Da) G0->RR (.ref Da) C (.ok .next) s5) :
  dg (fj X.prog X.w) X.A (newList []) (λacc s₃=>dg (fj X.prog X.w) X.A (newFunctionEnv scope X.env.globals (o9 X.env.cells scope.names []) [] X.env.qual bh .none (aj X.env)) (λcenv s₄ =>
   a0u (fj X.prog X.w) X.A (.compStart (.ListComp elt [⟨tgt,iter,ifs,0⟩] scope pos) 0 (.ref it) acc {cenv with scope:=relabel scope X.env}) (RR acc cenv.locals) s₄) X.xe s₃) X.xe s2:=by
 refine zj ?_;have I3:=I2.aGX (its:=[]) (ys:=[]) (t':=s2.toks) .nil (by decide);have hD:H2 s2.heap.objs.size=bh:=I2.fresh;have kf:=nG I3;have gD:G1 s2.heap.objs.size=bh:=gH g1 hD kf;obtain⟨P,p0,pok,pst,pend⟩:=body _ gD
 have ltD:∀b∈fp,b<s2.heap.objs.size:=λb hb=>by
  obtain⟨o,e,_⟩:=T.obj 0 _ st2 b hb;exact gw e
 have hsz3:(s2.heap.push {cls:=.type "list",data:=.seq ([]:List aq).toArray}).objs.size=s2.heap.objs.size+1:=a2w ..
 have hf3:∀b∈fp,a1W X pins (upd H2 s2.heap.objs.size (.lst [])) b/\b<(s2.heap.push {cls:=.type "list",data:=.seq ([]:List aq).toArray}).objs.size:=λb hb=>by
  obtain⟨f0,fr⟩:=f2 b hb;exact⟨⟨by rw[aU (jc (ltD b hb))];exact f0,fr⟩,by rw[hsz3];exact a1g (ltD b hb)⟩
 refine wpAny_newFunctionEnv c.ahK (by intro y hy;simp at hy) (λh₁ hns₁ hsb₁=>?_) c.kind;dsimp only at hns₁ hsb₁ ⊢;generalize hH3:s2.heap.push {cls:=.type "list",data:=.seq ([]:List aq).toArray}=h3 at *;generalize hDe:s2.heap.objs.size=Da at *;have ayR:∀b o,h3.get? b=aj o->h₁.get? b=aj o:=λb o e=>hsb₁.extBut b o (jc (gw e)) (cg _ e)
 show a0u (fj X.prog X.w) X.A (Code.compStart (elt.ListComp [{target:=tgt,iter:=iter,ifs:=ifs,is_async:=0}] scope pos) 0 (aq.ref it) (aq.ref Da) (compEnvC scope (o9 X.env.cells scope.names []) h3.objs.size X.env))
  (RR (.ref Da) h3.objs.size) {s2 with heap:=h₁,toks:=s2.toks+([]:List (Str×aq)).length}
 have J0:=aC0 (tk:=s2.toks+([]:List (Str×aq)).length) I3 c rfl hf3 hns₁ ayR;have st1:tn 0 h₁:=T.keep _ _ _ st2 λb hb o e=>ayR b o (by rw[←hH3];exact cg _ e);have g0:HR X.K (upd H2 Da (.lst [])) (aH G1 Da (.lst [])):=g1.put (u:=.lst []) hD ⟨[],aK,.nil⟩;have ts0:Ts H2 (upd H2 Da (.lst [])):=.same (bG hD)
 have loop:∀s₄:dh,Inv (qL X xs scope h3.objs.size {s2 with heap:=h3,toks:=s2.toks} (upd H2 Da (.lst [])) fp pins) [] (nn xs σ) (upd H2 Da (.lst [])) s₄->tn 0 s₄.heap ->
   a0u (fj X.prog X.w) X.A (.compLoop (.ListComp elt [⟨tgt,iter,ifs,0⟩] scope pos) 0 (.ref it) (.ref Da) (compEnvC scope (o9 X.env.cells scope.names []) h3.objs.size X.env)) (RR (.ref Da) h3.objs.size) s₄:=by
  intro s₄ J4 st4
  refine ap0 (λn s'=>∃i ds H' G',Inv (qL X xs scope h3.objs.size {s2 with heap:=h3,toks:=s2.toks} (upd H2 Da (.lst [])) fp pins) [] (nn xs σ) H' s'/\tn i s'.heap/\(∀b∈fp,H' b=bh)/\HR X.K H' G'/\P i ds G'/\i<=src.items.length/\n=src.items.length - i/\Ts H2 H') (λn s' hI=>?_) src.items.length
   ⟨0,[],_,_,J4,st4,λb hb=>(hf3 b hb).1.1,g0,p0,vh _,by simp,ts0⟩
  obtain⟨i,ds,H',G',J,st,fr,g',p,hi',rfl,ts⟩:=hI;obtain⟨ok,hDl,hdl⟩:=pok i ds G' hi' p;obtain⟨sgo,aMR,aI3⟩:=sj H' G' ts g' ok
  have fpX:∀{H':Hp},(∀b∈fp,H' b=bh)->∀b∈fp,a1W (qL X xs scope h3.objs.size {s2 with heap:=h3,toks:=s2.toks} (upd H2 Da (.lst [])) fp pins) [] H' b:=λhn b hb=>by
   obtain⟨⟨f0,f1,f2',f3,f4,f5⟩,lt⟩:=hf3 b hb;refine⟨hn b hb,jc lt,λhs=>?_,.inl hb,λy d e=>f4 y d (jC e λ_ h=>by simp at h),λp' hp'=>f5 p' (by simpa using hp')⟩;rcases ac1 I3 hs with z|z
   .exact f1 z
   .exact f2' z
  by_cases hlt:i<src.items.length
  .refine qm (T.item (qL X xs scope h3.objs.size {s2 with heap:=h3,toks:=s2.toks} (upd H2 Da (.lst [])) fp pins) rfl rfl rfl (λh=>h) (λ_ h=>h) i [] s' (nn xs σ) H' (λ_ _=>False) J (fpX fr) st (sgo i hlt)) ?_ λ_ _ z=>z.elim;rintro r s5 ⟨u,hr,h5⟩;subst hr
   obtain⟨d0,ys,hd0,ey,aMT⟩:∃d ys,src.items[i]?=aj d/\dv d=aj ys/\tc (ys.map aj++ρ) G' λb G2=>if b=ak then te (ys.map aj++ρ) G2 λy G3=>G3 Da=aj (.lst ds)/\P (i+1) (ds++[y]) (aH G3 Da (.lst (ds++[y])))else P (i+1) ds G2:=by
    have hd:src.items[i]?=aj src.items[i]:=gV hlt;obtain⟨ys,e,z⟩:=pst i _ ds G' hd p;exact⟨_,ys,hd,e,z⟩
   show dg _ _ (a1t tgt (.ref it) u) _ _ s5;refine qm h5 ?_ λ_ _ z=>z.elim;rintro _ s6 ⟨vx,H6,I6,r6,y6,st6,fr6⟩;obtain⟨sm,d,hd,rd⟩:=aMR i vx H6 hlt y6;have g':=g'.same sm;have ts:=ts.trans (.same sm);obtain rfl:d0=d:=iz.inj (hd0.symm.trans hd);have I6':=I6.pinned (fpX fr6) (T.obj _ _ st6);refine qm (hT _ _ _ _ _ _ _ s6 H6 vx u _ _ I6' r6 rd ey) ?_ λ_ _ z=>z.elim;rintro _ s7 ⟨vs,rvs,I7⟩;have lv:vs.length=xs.length:=by rw[←rvs.length];exact hdv _ _ ey
   have ap1:∀{s'':dh}{σ'':St}{H'':Hp},Inv (qL X xs scope h3.objs.size {s2 with heap:=h3,toks:=s2.toks} (upd H2 Da (.lst [])) fp pins) ([]++a1X fp s6.heap) σ'' H'' s''->tn (i+1) s''.heap/\∀b∈fp,H'' b=bh:=λI''=>by
    refine⟨T.keep _ _ _ st6 λb hb o e=>(I''.pin (b,o) (qd _ (qd _ (sW hb e)))).1,λb hb=>?_⟩;obtain⟨o,e,_⟩:=T.obj _ _ st6 b hb;exact(I''.pin (b,o) (qd _ (qd _ (sW hb e)))).2.1
   have down:∀{s'':dh}{H'':Hp},Inv (qL X xs scope h3.objs.size {s2 with heap:=h3,toks:=s2.toks} (upd H2 Da (.lst [])) fp pins) ([]++a1X fp s6.heap) (vs.map aj++σ) H'' s''->Inv (qL X xs scope h3.objs.size {s2 with heap:=h3,toks:=s2.toks} (upd H2 Da (.lst [])) fp pins) [] (nn xs σ) H'' s'':=λI'' =>
    I''.a09.weak (by simp[nn,lv]) λj v e=>by
     obtain⟨j',rfl,e'⟩:=aoX e;rw[←lv,show vs.length=(vs.map aj).length by simp,ajS];exact e'
   have sr7:SR X.K H6 (ys.map aj++ρ) (vs.map aj++σ):=aoZ (sr.mono (t1.trans ts)) rvs
   refine qm (hc _ _ _ _ _ _ s7 (vs.map aj++σ) H6 (λb H8=>Ts H6 H8/\∃G8,HR X.K H8 G8/\(if b=ak then te (ys.map aj++ρ) G8 λy G3=>G3 Da=aj (.lst ds)/\P (i+1) (ds++[y]) (aH G3 Da (.lst (ds++[y])))else P (i+1) ds G8)) I7
    ⟨ys.map aj++ρ,G',_,sr7,g',aMT,λb H8 G8 t8 g8 q8=>⟨t8,G8,g8,q8⟩⟩) (λb s8 ⟨H8,I8,t8,G8,g8,q8⟩=>?_) λ_ _ z=>z.elim
   cases b with
   |false =>
    rw[if_neg (by decide)];have q8':P (i+1) ds G8:=by simpa using q8
    obtain⟨a1,a2⟩:=ap1 I8;exact⟨src.items.length - (i+1),by omega,i+1,ds,H8,G8,down I8,a1,a2,g8,q8',hlt,rfl,ts.trans t8⟩
   |true =>
    rw[if_pos rfl];have q8':te (ys.map aj++ρ) G8 λy G3=>G3 Da=aj (.lst ds)/\P (i+1) (ds++[y]) (aH G3 Da (.lst (ds++[y]))):=by simpa using q8
    refine qm (he _ _ _ _ _ _ s8 (vs.map aj++σ) H8 (λvy H9=>Ts H8 H9/\∃y G9,RD X.K H9 y vy/\HR X.K H9 G9/\G9 Da=aj (.lst ds)/\P (i+1) (ds++[y]) (aH G9 Da (.lst (ds++[y])))) I8 ⟨ys.map aj++ρ,G8,_,sr7.mono t8,g8,q8',λvy H9 y G9 t9 r9 g9 q9=>⟨t9,y,G9,r9,g9,q9⟩⟩) ?_ λ_ _ z=>z.elim;rintro uy s9 ⟨vy,H9,I9,ry,t9,y,G9,ryd,g9,hG9,q9⟩;obtain⟨ws,hH9,rws⟩:=g9 Da _ hG9;have aI5:ws.length<cu:=by rw[←rws.length];omega
    refine qm (a9Y (X:=qL X xs scope h3.objs.size {s2 with heap:=h3,toks:=s2.toks} (upd H2 Da (.lst [])) fp pins) _ s9 (vs.map aj++σ) H9 (.ref Da) [vy] (.ref Da) [uy] (λ_ H10=>H10=upd H9 Da (.lst (ws++[vy]))) I9 rfl (.cons ry .nil) ⟨Da,ws,vy,rfl,rfl,hH9,aI5,rfl⟩) ?_ λ_ _ z=>z.elim;rintro _ s10 ⟨_,H10,I10,_,e10⟩;subst e10;obtain⟨a1,a2⟩:=ap1 I10;have tt:Ts H9 (upd H9 Da (.lst (ws++[vy]))):=.turn hH9 (λ_ z=>nomatch z) (λ_ _ z=>nomatch z);exact⟨src.items.length - (i+1),by omega,i+1,ds++[y],_,_,down I10,a1,a2,g9.turn (u:=.lst (ds++[y])) tt ⟨_,aK,(rws.append (.cons ryd .nil)).mono tt⟩,q9,hlt,rfl,((ts.trans t8).trans t9).trans tt⟩
  .have ein:i=src.items.length:=by omega
   subst ein;refine qm (T.done (qL X xs scope h3.objs.size {s2 with heap:=h3,toks:=s2.toks} (upd H2 Da (.lst [])) fp pins) rfl rfl rfl (λh=>h) (λ_ h=>h) _ [] s' (nn xs σ) H' (λ_ _=>False) J (fpX fr) st aI3) ?_ λ_ _ z=>z.elim;rintro r s5 ⟨hr,J5⟩;subst hr;obtain⟨m5,hn5,_⟩:=id J5.loc;obtain⟨G0,l0,q0⟩:=pend ds G' p;have I5:Inv X pins σ H' s5:=av1 (tk:=s5.toks) I3 rfl hf3 J5 (jz.refl _ _);refine hRR Da _ s5 H' G0 I5 ⟨⟨m5,hn5⟩,J5.free,a0e I3.lt,I3.sz,λy d e z=>?_,λp hp z=>?_⟩ (t1.trans ts) (g'.le l0) q0
   .obtain⟨w,o,ho,_⟩:=I3.cell y d e;rw[z]at ho;exact absurd (gw ho) (ur _)
   .have:=(I3.pin p hp).1;rw[z]at this;exact absurd (gw this) (ur _)
 exact codeAny_compStart_list (loop _ J0 st1) (T.self X.A 0 _ _ _ st1 (loop _ J0 st1))
noncomputable def a0G(dv:D->Option (List D))(ti:TI3)(tc:yN)(te:bV):bV:=λρ G R=>ti ρ G λsrc G1=>src.items.length<cu/\∀p,G1 p=bh->∃P:Nat->List D->Gp->Prop,P 0 [] (aH G1 p (.lst [])) /\
 (∀k ds G,k<=src.items.length->P k ds G->src.ok G/\G p=aj (.lst ds)/\ds.length<=k) /\
 (∀k d ds G,src.items[k]?=aj d->P k ds G->∃ys,dv d=aj ys/\tc (ys.map aj++ρ) G λb G2=>if b=ak then te (ys.map aj++ρ) G2 λy G3=>G3 p=aj (.lst ds)/\P (k+1) (ds++[y]) (aH G3 p (.lst (ds++[y])))else P (k+1) ds G2) /\
 ∀ds G,P src.items.length ds G->∃G0,Le G0 G/\R (.ref p) G0
noncomputable def ac2(d:D):Option (List D):=some [d]
noncomputable abbrev jN(ti:TI3)(tc:yN)(te:bV):bV:=a0G ac2 ti tc te
theorem ap2(d:D)(ds:List D)(h:ac2 d=aj ds):ds.length=[x].length:=by
 unfold ac2 at h;cases h;rfl
theorem ap3(c:zH X xs scope)(hnd:X.N.Nodup):(xs++X.N).Nodup:=uq.mpr ⟨c.nd,hnd,λa ha b hb e=>c.out a ha (e ▸ hb)⟩
theorem aC3(c:zH X [x] scope)(hnd:X.N.Nodup):aC2 (qL X [x] scope C s H fp pins) (.Name x px) [x] ac2 σ:=by
 intro a9R s' H' v u d ds I r rd e;unfold ac2 at e;cases e;have pgn:PG (qL X [x] scope C s H fp pins) (.Name x px) (ajB 0):=abF (ap3 c hnd) rfl (.inl (lookup_relabel_local (c.var x (by simp)))) (.inr (lookup_relabel_local (c.var x (by simp))));refine qm (pgn a9R s' (nn [x] σ) H' v u (λσ' H2=>σ'=[v].map aj++σ/\H2=H') I r ⟨rfl,rfl⟩) ?_ λ_ _ z=>z;rintro _ s2 ⟨σ2,H2,I2,e2,e3⟩;subst e2;subst e3;exact⟨[v],.cons rd .nil,I2⟩
theorem av4(c:zH X xs scope)(hT:∀C s H fp pins σ,aC2 (qL X xs scope C s H fp pins) tgt xs dv σ)(hdv:∀d ds,dv d=aj ds->ds.length=xs.length)(hi:PI3 X tgt iter ti)(hc:∀C s H fp pins,aoY (qL X xs scope C s H fp pins) ifs tc)(he:∀C s H fp pins,bY (qL X xs scope C s H fp pins) elt te)
  (hs:∀y,a1h iter X.env y=pure y):bY X (.ListComp elt [⟨tgt,iter,ifs,0⟩] scope pos) (a0G dv ti tc te):=by
 intro pins s σ H Q I h;obtain⟨ρ,G,R,sr,g,q,kk⟩:=h;rw[eval_ListComp];refine wpAny_comprehension_free (use:=none) rfl hs (a2E λy hy hf=>I.ok.has y.1 (c.frees y hy hf)) c.kind c.locs ?_
 refine cR (hi pins s σ H (λJ H1=>Ts H H1/\∃src G1,HR X.K H1 G1/\a95 X.K H1 src J/\(src.items.length<cu/\∀p,G1 p=bh->∃P:Nat->List D->Gp->Prop,P 0 [] (aH G1 p (.lst [])) /\
   (∀k ds G,k<=src.items.length->P k ds G->src.ok G/\G p=aj (.lst ds)/\ds.length<=k) /\
   (∀k d ds G,src.items[k]?=aj d->P k ds G->∃ys,dv d=aj ys/\tc (ys.map aj++ρ) G λb G2=>if b=ak then te (ys.map aj++ρ) G2 λy G3=>G3 p=aj (.lst ds)/\P (k+1) (ds++[y]) (aH G3 p (.lst (ds++[y])))else P (k+1) ds G2) /\
   ∀ds G,P src.items.length ds G->∃G0,Le G0 G/\R (.ref p) G0)) I ⟨ρ,G,_,sr,g,q,λsrc J H' G' t1 g1 sj q1=>⟨t1,src,G',g1,sj,q1⟩⟩) λv s1 h1=>cR h1 λitv s2 hz=>?_
 obtain⟨it,fp,tn,J,H2,e,I2,T,st2,f2,t1,src,G1,g1,sj,hlen,body⟩:=hz;subst e
 exact amG (RR:=λacc C=>compPost (fj X.prog X.w) X.A X.xe bh (EP X pins σ Q) acc C) c hT hdv hc he sr I2 T st2 f2 t1 g1 sj hlen body λDa C s5 H' G0 I5 o ts g0 q0=>by
  obtain⟨m,hn⟩:=o.ns;exact⟨m,hn,λh' hs'=>⟨.ref Da,H',o.turn I5 hs',rfl,kk _ H' _ G0 ts (.ref Da) g0 q0⟩⟩
end
end
variable{ti:TI3}
section
abbrev TG3:=D->aO->(aO->Prop)->Prop
noncomputable def upG(K:Fg)(t:TG3):TG:=λv σ H Q=>∃ρ d R,SR K H ρ σ/\RD K H d v/\t d ρ R/\∀ρ' σ',SR K H ρ' σ'->R ρ'->Q σ' H
abbrev PG3(X:Cx)(tg:jk)(t:TG3):Prop:=PG X tg (upG X.K t)
noncomputable def qN(i:Nat):TG3:=λd ρ Q=>Q (a6E ρ i d)
noncomputable def aa7:aO->List Nat->List D->aO
 |ρ,i::is,d::ds=>aa7 (a6E ρ i d) is ds
 |ρ,_,_=>ρ
noncomputable def ayS(is:List Nat):TG3:=λd ρ Q=>match d with
 |.tup ds=>ds.length=is.length/\Q (aa7 ρ is ds)
 |_=>False
noncomputable def ap4:St->List Nat->List V->St
 |σ,i::is,v::vs=>ap4 (σ.set i (aj v)) is vs
 |σ,_,_=>σ
theorem SR.sets{K:Fg}:∀{is:List Nat}{ds:List D}{vs:List V}{ρ:aO}{σ:St},bW K H ds vs->SR K H ρ σ->SR K H (aa7 ρ is ds) (ap4 σ is vs)
 |[],_,_,_,_,_,s=>s
 |_::_,_,_,_,_,.nil,s=>s
 |i::is,_,_,_,_,.cons h r,s=>SR.sets (is:=is) r (s.set h i)
section
variable{X:Cx}
theorem PG.imp{t:TG}(h:PG X e t)(k:∀v σ H Q,t' v σ H Q->t v σ H Q):PG X e t':=λpins s σ H v u Q I r q=>h pins s σ H v u Q I r (k _ _ _ _ q)
theorem aC4{i:Nat}{x:Str}(hN:X.N.Nodup)(hi:X.N[i]?=aj x)(hx:Loc X.env.scope x)(hf:X.fn x=ak∨X.env.scope.names.lookup x=aj .local):PG3 X (.Name x pos) (qN i) :=
 PG.imp (abF hN hi hx hf) λv σ H Q h=>by
 obtain⟨ρ,d,R,s,r,q,k⟩:=h;exact k _ _ (s.set r i) q
structure aC5(X:Cx)(e:jk)(i:Nat):Prop where
 ex:∃x pos,e=.Name x pos/\X.N[i]?=aj x/\Loc X.env.scope x/\(X.fn x=ak∨X.env.scope.names.lookup x=aj .local)
noncomputable def aC6:List Nat->TGs
 |[]=>aG8
 |i::is=>ayG (ajB i) (aC6 is)
theorem ajT:∀{is:List Nat}{vs:List V}{σ:St}{H:Hp}{Q:St->Hp->Prop},vs.length=is.length->Q (ap4 σ is vs) H->aC6 is vs σ H Q
 |[],[],_,_,_,_,q=>⟨rfl,q⟩
 |[],_::_,_,_,_,h,_=>by simp at h
 |_::_,[],_,_,_,h,_=>by simp at h
 |i::is,v::vs,σ,H,Q,h,q=>⟨v,vs,rfl,ajT (is:=is) (by simpa using h) q⟩
theorem aa8(hN:X.N.Nodup):∀{es:List jk}{is:List Nat},Two (aC5 X) es is->PGs X es (aC6 is)/\(a1a es X.env).length=is.length/\(a1a es X.env).findIdx? (·.1)=bh
 |_,_,.nil=>⟨atR,rfl,rfl⟩
 |_,_,.cons (a:=e) (b:=i) h r=>by
  obtain⟨x,pos,rfl,h1,h2,h3⟩:=h.ex;obtain⟨a1,a2,a3⟩:=aa8 hN r;refine⟨anV (abF hN h1 h2 h3) a1 rfl,?_,?_⟩
  .show(a1a _ X.env).length+1=_;rw[a2];rfl
  .show((ao,assign (.Name x pos) X.env)::a1a _ X.env).findIdx? (·.1)=bh;rw[List.findIdx?_cons];simp[a3]
theorem aI7{is:List Nat}{k:Nat}(hN:X.N.Nodup)(hc:X.calm=ak)(h:Two (aC5 X) es is):PG3 X (.Tuple es k pos) (ayS is):=by
 obtain⟨a1,a2,a3⟩:=aa8 hN h;refine PG.imp (aAE hc a1 a2 a3) λv σ H Q h=>?_;obtain⟨ρ,d,R,s,r,q,k⟩:=h;cases r with
 |@tup a vs ds hq rv =>
  have q':ds.length=is.length/\R (aa7 ρ is ds):=q;exact⟨a,vs,rfl,hq,by rw[←rv.length];exact q'.1,ajT (by rw[←rv.length];exact q'.1) (k _ _ (SR.sets rv s) q'.2)⟩
 |_=>exact False.elim q
def ac3(K:Fg)(src:Src)(J:It):Prop:=∀H2 G2,HR K H2 G2->src.ok G2 ->
 (∀i,i<src.items.length->J.go i H2)/\(∀i v H',i<src.items.length->J.yld i H2 v H'->Same H2 H'/\∃d,src.items[i]?=aj d/\RD K H' d v)/\J.stop src.items.length H2
noncomputable def aMW(K:Fg)(t:TI3):TI:=λσ H Q=>∃ρ G R,SR K H ρ σ/\HR K H G/\t ρ G R/\∀src J H' G',Ts H H'->HR K H' G'->ac3 K src J->R src G'->Q J H'
abbrev PIS(X:Cx)(tg iter:jk)(t:TI3):Prop:=PI X tg iter (aMW X.K t)
noncomputable def ahL(te:bV):TI3:=λρ G R=>te ρ G λx G1=>match x with
 |.ref p=>(match aY G1 p with
  |some xs=>R (.lst p xs) G1
  |none=>False)
 |.str z=>R (.imm (signs z)) G1
 |.tup xs=>xs.all scD=ak/\∀a,(G1 a=bh∨G1 a=aj (.tpl xs))->R (.tpl a xs) (aH G1 a (.tpl xs))
 |_=>False
theorem aI9{K:Fg}{v:V}(h:scD d=ak)(r:RD K H d v)(r':RD K H d' v):d'=d:=by
 cases r with
 |non=>cases r';rfl
 |bl b=>cases r';rfl
 |int i=>cases r';rfl
 |str x=>cases r';rfl
 |_=>exact Bool.noConfusion (show ao=ak from h)
theorem ap5{K:Fg}:∀{ds ds':List D}{vs:List V},ds.all scD=ak->bW K H ds vs->bW K H ds' vs->ds'=ds
 |_,_,_,_,.nil,.nil=>rfl
 |d::ds,d'::ds',_,h,.cons r rr,.cons r' rr'=>by
  rw[yt,bx]at h;rw[aI9 h.1 r r',ap5 h.2 rr rr']
theorem ap6{o:GO}(I:Inv X pins σ H s)(g:HR X.K H G)(hq:yK X.K H a xs)(e:G a=aj o):∃ds,o=.tpl ds/\bW X.K H ds xs:=by
 have no:∀u,H a=aj u->(∀ys,u≠.tup ys)->(∀ob ys,u≠.gF ob (.tup ys))->False:=λu hu h1 h2=>by
  rcases hq with(q|⟨ob,q⟩)|⟨ob,_,_,q,_⟩
  .rw[hu]at q;exact h1 _ (iz.inj q)
  .rw[hu]at q;exact h2 _ _ (iz.inj q)
  .have:=nG I a ob q;rw[hu]at this;cases this
 have z:=g a o e;cases o with
 |lst ds=>obtain⟨_,q,_⟩:=z;exact(no _ q (λ_ w=>nomatch w) (λ_ _ w=>nomatch w)).elim
 |rol ds =>
  obtain⟨_,q,_⟩:=z;obtain⟨_,_,⟨o1,n1,e1,c1,_⟩,_⟩:=I.list q;obtain⟨_,_,⟨o2,e2,c2,_⟩,_⟩:=I.tuple hq;rw[e1]at e2;cases e2;rw[c1]at c2;exact absurd c2 (by decide)
 |bC t kvs=>rcases z with⟨_,_,q,_⟩|⟨_,_,q,_⟩<;>exact(no _ q (λ_ w=>nomatch w) (λ_ _ w=>nomatch w)).elim
 |ins C fs=>obtain⟨_,_,q,_⟩:=z;exact(no _ q (λ_ w=>nomatch w) (λ_ _ w=>nomatch w)).elim
 |exn C=>obtain⟨_,_,q,_⟩:=z;exact(no _ q (λ_ w=>nomatch w) (λ_ _ w=>nomatch w)).elim
 |uV kvs=>obtain⟨_,q,e⟩:=z;exact(no _ q e.no.1 λ_ _ w=>e.no.2.1 _ _ w).elim
 |rnm ob kvs=>obtain⟨_,q,e⟩:=z;exact(no _ q (λ_ w=>nomatch w) λ_ _ w=>e.no.1 _ (HO.gF.inj w).2).elim
 |yM ob t kvs=>rcases z with⟨_,_,q,_⟩|⟨_,_,q,_⟩<;>exact(no _ q (λ_ w=>nomatch w) (λ_ _ w=>nomatch w)).elim
 |tpl ds=>obtain⟨ys,q,r⟩:=z;exact⟨ds,rfl,by rw[←I.xA q hq];exact r⟩
theorem av5{ds:List D}(I:Inv X pins σ H s)(g:HR X.K H G)(hq:yK X.K H a xs)(rv:bW X.K H ds xs)(sc:ds.all scD=ak) :
  (G a=bh∨G a=aj (.tpl ds))/\HR X.K H (aH G a (.tpl ds)):=by
 refine⟨?_,λb o e=>?_⟩
 .cases e:G a with
  |none=>exact .inl rfl
  |some o=>obtain⟨ds',rfl,r⟩:=ap6 I g hq e;exact .inr (by rw[ap5 sc rv r])
 .by_cases hb:b=a
  .subst hb;rw[aD]at e;cases e;exact⟨xs,hq,rv⟩
  .rw[aN hb]at e;exact g b o e
theorem ap7{K:Fg}:ac3 K (.tpl p xs) (Itt K p):=λH2 G2 g ok=>by
 obtain⟨vs,hq,rv⟩:=g p _ ok;exact aeA hq rv H2 G2 (.refl _) g trivial
theorem amH{K:Fg}:ac3 K (.lst p xs) (Itl K p):=λH2 G2 g ok=>aa6 (H1:=H2) H2 G2 (.refl _) g ok
theorem aeC{K:Fg}:ac3 K (.imm (signs z)) (Its z):=λH2 G2 g ok=>a6N (H1:=H2) H2 G2 (.refl _) g ok
theorem ap8{K:Fg}:ac3 K (.imm ((jw n).map λ(i:Nat)=>.int (lo+(i:Int)))) (Itr lo n):=λH2 G2 g ok=>aeB (H1:=H2) H2 G2 (.refl _) g ok
set_option tactic.hygienic true in
theorem aC7(hl:bY X l te):PIS X tg l (ahL te):=by
 intro pins s σ H R I h;obtain⟨ρ,G,R3,sr,g,q,k⟩:=h
 refine cR (hl pins s σ H (λv H1=>Ts H H1/\∃x G1,RD X.K H1 x v/\HR X.K H1 G1/\(match x with
  |.ref p=>(match aY G1 p with
   |some xs=>R3 (.lst p xs) G1
   |none=>False)
  |.str z=>R3 (.imm (signs z)) G1
  |.tup xs=>xs.all scD=ak/\∀a,(G1 a=bh∨G1 a=aj (.tpl xs))->R3 (.tpl a xs) (aH G1 a (.tpl xs))
  |_=>False)) I ⟨ρ,G,_,sr,g,q,λv H1 x G1 t1 r g1 q1=>⟨t1,x,G1,r,g1,q1⟩⟩) λv s1 ⟨x,H1,I1,r1,t1,d,G1,rd,g1,q1⟩=>?_
 cases rd with
 |ref a =>
  have q1':(match aY G1 a with
   |some xs=>R3 (.lst a xs) G1
   |none=>False):=q1
  split at q1'
  .rename_i xs e;cases r1;obtain⟨vs,hq,rv⟩:=bU g1 e;obtain⟨its,rv',p,hz⟩:=I1.list hq;refine a2d p.isList ?_;refine⟨s1.heap.objs.size,[s1.heap.objs.size],_,_,H1,rfl,I1.kept (t':=s1.toks) λb o e=>cg _ e,a9S a _,⟨_,ig _ rfl,rfl,rfl⟩,λb hb=>?_,k _ _ H1 G1 t1 g1 amH q1'⟩;have e:b=s1.heap.objs.size:=by simpa using hb
   subst e;exact I1.a08 (dz _) (I1.hok.fresh (dz _))
  .exact q1'.elim
 |str z =>
  obtain⟨t,rfl⟩:=r1;cases ha:z.cps.all (· <128)
  .refine wpAny_pyIter_wide ha ?_;refine⟨s1.heap.objs.size,[s1.heap.objs.size],_,_,H1,rfl,I1.kept (t':=s1.toks) λb o e=>cg _ e,aa5 _ z t,?_,λb hb=>?_,k _ _ H1 G1 t1 g1 aeC q1⟩
   .rw[Nat.zero_min];exact⟨_,ig _ rfl,rfl,rfl⟩
   .have e:b=s1.heap.objs.size:=by simpa using hb
    subst e;exact I1.a08 (dz _) (I1.hok.fresh (dz _))
  .refine wpAny_pyIter_ascii ha ?_;refine⟨s1.heap.objs.size,[s1.heap.objs.size],_,_,H1,rfl,I1.kept (t':=s1.toks) λb o e=>cg _ e,aa4 _ z t,?_,λb hb=>?_,k _ _ H1 G1 t1 g1 aeC q1⟩
   .rw[Nat.zero_min];exact⟨_,ig _ rfl,rfl,rfl⟩
   .have e:b=s1.heap.objs.size:=by simpa using hb
    subst e;exact I1.a08 (dz _) (I1.hok.fresh (dz _))
 |@tup a vs xs hq rv =>
  cases r1;obtain⟨its,rv',p,hz⟩:=I1.tuple hq;obtain⟨sc,q1⟩:=q1;obtain⟨hG,g2⟩:=av5 I1 g1 hq rv sc;refine wpAny_pyIter_tuple (show s1.heap.IsTuple a its.toArray from p) ?_;refine⟨s1.heap.objs.size,[s1.heap.objs.size],_,_,H1,rfl,I1.kept (t':=s1.toks) λb o e=>cg _ e,a65 a _,⟨_,ig _ rfl,rfl,rfl⟩,λb hb=>?_,k _ _ H1 _ t1 g2 ap7 (q1 a hG)⟩;have e:b=s1.heap.objs.size:=by simpa using hb
  subst e;exact I1.a08 (dz _) (I1.hok.fresh (dz _))
 |_=>exact q1.elim
theorem av6{a:jk}{p:Pos}(hg:Gl X "range")(hm:X.mg "range"=bh)(ha:PA3 X [a] ta)(hs:jg [a] X.env=[(ao,eval a X.env)]):PIS X tg (.Call (.Name "range" p) [a] [] pos) (a2D ta) :=
 PI.imp (a9T hg hm ha hs) λσ H Q h=>by
 obtain⟨ρ,G,R,s,g,q,k⟩:=h;refine⟨ρ,G,_,s,g,q,λvs H1 ds G1 t1 r g1 h1=>?_⟩;cases r with
 |nil=>exact h1.elim
 |cons r rr =>
  cases rr with
  |cons _ _=>cases r<;>exact False.elim h1
  |nil =>
   cases r with
   |int j =>
    obtain⟨l1,l2,h1⟩:=h1;refine⟨j,rfl,l1,l2,k _ _ H1 G1 t1 g1 ?_ h1⟩;unfold a96;rw[show(j - 0).toNat=j.toNat by omega];exact ap8
   |_=>exact False.elim h1
noncomputable def vJ(ti:TI3)(tg:TG3)(tb:bK):bK:=λF ρ G=>ti ρ G λsrc G1=>∃P:Nat->aO->Gp->Prop,P 0 ρ G1/\(∀k ρ G,k<=src.items.length->P k ρ G->src.ok G) /\
 (∀k d ρ G,src.items[k]?=aj d->P k ρ G->tg d ρ λρ2=>tb {F with nx:=P (k+1),ct:=P (k+1),bk:=F.nx} ρ2 G)/\∀ρ G,P src.items.length ρ G->F.nx ρ G
theorem aC8{tg:TG3}(hp:a1y (fj X.prog X.w) X.A X.env X.xe)(hi:PIS X tgt iter ti)(hg:PG3 X tgt tg)(hb:a4R X body tb)
  (hs:∀x,a1h iter X.env x=pure x):PS3 X (.For tgt iter body [] pos) (vJ ti tg tb):=PS.imp (anZ hp hi hg hb hs) λF σ H h=>by
 obtain⟨ρ,G,E,s,g,q,d⟩:=h
 refine⟨ρ,G,λsrc G1=>∃P:Nat->aO->Gp->Prop,P 0 ρ G1/\(∀k ρ G,k<=src.items.length->P k ρ G->src.ok G) /\
  (∀k d ρ G,src.items[k]?=aj d->P k ρ G->tg d ρ λρ2=>tb {E with nx:=P (k+1),ct:=P (k+1),bk:=E.nx} ρ2 G)/\∀ρ G,P src.items.length ρ G->E.nx ρ G,s,g,q,λsrc J H1 G1 t1 g1 sj ⟨P,p0,pok,pst,pend⟩=>?_⟩
 refine ae3 (K:=X.K) (n:=src.items.length) (λk σ2 H2=>∃ρ' G',SR X.K H2 ρ' σ2/\HR X.K H2 G'/\P k ρ' G') ⟨ρ,G1,s.mono t1,g1,p0⟩ (λσ2 H2 ⟨ρ',G',s2,g2,p⟩=>?_) (λk σ2 H2 hk ⟨ρ',G',s2,g2,p⟩=>?_) (λk y σ2 H2 H3 hk ⟨ρ',G',s2,g2,p⟩ hy=>?_)
  (λσ2 H2 ⟨ρ',G',s2,g2,p⟩=>d.nx ρ' G' σ2 H2 s2 g2 (pend ρ' G' p))
 .exact(sj H2 G' g2 (pok _ ρ' G' (dz _) p)).2.2
 .exact(sj H2 G' g2 (pok _ ρ' G' (ux hk) p)).1 k hk
 .obtain⟨sm,dk,e1,e2⟩:=(sj H2 G' g2 (pok _ ρ' G' (ux hk) p)).2.1 k y H3 hk hy;refine⟨ρ',dk,_,s2.mono (.same sm),e2,pst k dk ρ' G' e1 p,λρ2 σ3 s3 q3=>?_⟩;exact⟨ρ2,G',_,s3,g2.same sm,q3,⟨λρ4 G4 σ4 H4 s4 g4 q4=>⟨ρ4,G4,s4,g4,q4⟩,d.rt,d.nx,λρ4 G4 σ4 H4 s4 g4 q4=>⟨ρ4,G4,s4,g4,q4⟩⟩⟩
end
end
section
section
end
end
section
section
variable{X:Cx}{pos:Pos}
noncomputable def ac4(c:yN)(tb:bK):bK:=λF ρ G=>∃W:Nat->aO->Gp->Prop,(∃m,W m ρ G)/\∀m ρ G,W m ρ G->c ρ G λb G1=>if b=ak then tb {F with nx:=λρ' G'=>∃m',m'<m/\W m' ρ' G',ct:=λρ' G'=>∃m',m'<m/\W m' ρ' G',bk:=F.nx} ρ G1 else F.nx ρ G1
theorem av7(hp:a1y (fj X.prog X.w) X.A X.env X.xe)(hc:PT3 X c tc)(hb:a4R X body tb):PS3 X (.While c body [] pos) (ac4 tc tb):=PS.imp (anW hp hc hb) λF σ H h=>by
 obtain⟨ρ,G,E,s,g,⟨W,⟨m0,w0⟩,turn⟩,d⟩:=h;refine⟨λm σ H=>∃ρ G,SR X.K H ρ σ/\HR X.K H G/\W m ρ G,⟨m0,ρ,G,s,g,w0⟩,λm σ1 H1 ⟨ρ1,G1,s1,g1,w1⟩=>⟨ρ1,G1,_,s1,g1,turn m ρ1 G1 w1,λb H2 G2 t2 g2 q2=>?_⟩⟩;cases b with
 |true =>
  rw[if_pos rfl];rw[if_pos rfl]at q2;refine⟨λσ' H'=>∃ρ' G',SR X.K H' ρ' σ'/\HR X.K H' G'/\∃m',m'<m/\W m' ρ' G',λσ' H' ⟨ρ',G',s',g',m',hm,w'⟩=>⟨m',hm,ρ',G',s',g',w'⟩,ρ1,G2,_,s1.mono t2,g2,q2,?_⟩;exact⟨λρ' G' σ' H' s' g' q'=>⟨ρ',G',s',g',q'⟩,d.rt,d.nx,λρ' G' σ' H' s' g' q'=>⟨ρ',G',s',g',q'⟩⟩
 |false=>exact d.nx _ _ _ _ (s1.mono t2) g2 (by simpa using q2)
end
theorem ints_of{K:Fg}:∀{ns:List Int}{vs:List V}{us:List aq},bW K H (ns.map D.int) vs->Vals vs us->∃ys:List (Int×Tok),us=ys.map (λp=>aq.int p.1 p.2)/\ys.map (·.1)=ns
 |[],_,_,r,v=>by cases r;cases v;exact⟨[],rfl,rfl⟩
 |n::ns,_,_,r,v=>by
  cases r with
  |cons h r =>
   cases h with
   |int i =>
    cases v with
    |cons hu v =>
     obtain⟨t,rfl⟩:=hu;obtain⟨ys,e1,e2⟩:=ints_of r v;exact⟨(n,t)::ys,by rw[e1];rfl,by rw[iy,e2]⟩
def aIA(xs:List D)(G:Gp)(P:List D->Prop)(O:Prop):Prop:=match xs with
 |[.ref q]=>(match aY G q with
  |some ds=>P ds
  |none=>False)
 |_=>O
noncomputable def ayT:List D->Gp->fZ->Prop:=λxs G R=>aIA xs G (λds=>∃ns:List Int,ds=ns.map D.int/\R (.int ns.sum) G) False
section
variable{X:Cx}
set_option tactic.hygienic true in
theorem aMX(I:Inv X pins σ H s)(rx:bW X.K H xs vs)(rv:Vals vs us)(g:HR X.K H G)
  (h:aIA xs G P O):(∃a ds ys its,us=[.ref a]/\bW X.K H ds ys/\Vals ys its/\s.heap.IsList a its.toArray/\P ds)∨O:=by
 cases rx with
 |nil=>exact .inr h
 |cons r1 rr =>
  cases rr with
  |cons _ _=>cases r1<;>exact .inr h
  |nil =>
   cases r1 with
   |ref a =>
    obtain⟨u,rfl,ru⟩:=vals1 rv;cases ru
    have q':(match aY G a with
     |some ds=>P ds
     |none=>False):=h
    split at q'
    .rename_i ds e1;obtain⟨ys,hq,r1⟩:=bU g e1;obtain⟨its,rv',p,hz⟩:=I.list hq;exact .inl ⟨a,ds,ys,its,rfl,r1,rv',p.isList,q'⟩
    .exact q'.elim
   |_=>exact .inr h
theorem int_list{zs:List (Int×Tok)}(p:s.heap.IsList a (zs.map λp=>aq.int p.1 p.2).toArray):s.heap.IsList a (intItems zs.toArray):=by
 have:intItems zs.toArray=(zs.map λp=>aq.int p.1 p.2).toArray:=by simp[intItems]
 rw[this];exact p
theorem aIB(hc:X.calm=ak):d8 X (.builtin "sum") ayT:=by
 intro pins s σ H xs vs us G R Q I rx rv g q k;rcases aMX I rx rv g q with⟨a,ds,ys,its,rfl,r1,rv',p,ns,rfl,q'⟩|z
 .obtain⟨zs,rfl,e2⟩:=ints_of r1 rv';refine sum_intListG (I.ok.hd hc) (int_list p) λh' tk t' kk=>?_
  have e3:preSum (numAt zs.toArray) zs.toArray.size=ns.sum:=by
   rw[preSum_eq,List.take_of_length_le (by simp)];rw[←e2]
  rw[e3];exact⟨.int _,H,I.kept kk,⟨t',rfl⟩,k _ H _ G (.refl H) (.int _) g q'⟩
 .exact z.elim
end
end
variable{v:aq}{x:D}{neg:Bool}
section
noncomputable def vK(f:D->D->Bool):List D->List D->Bool
 |x::xs,y::ys=>f x y&&vK f xs ys
 |_,_=>ak
noncomputable def mD(f:D->D->Bool):List D->List D->Bool
 |[],[]=>ak
 |x::xs,y::ys=>f x y&&mD f xs ys
 |_,_=>ao
noncomputable def okN(G:Gp):Nat->D->D->Bool
 |0,x,y=>aQ 10 x&&aQ 10 y
 |n+1,x,y=>match x,y with
  |.ref p,.ref q=>(match aY G p,aY G q with
   |some xs,aj ys=>vK (okN G n) xs ys
   |_,_=>ao)
  |.tup xs,.tup ys=>vK (okN G n) xs ys
  |x,y=>aQ 10 x&&aQ 10 y
noncomputable def xT(G:Gp):Nat->D->D->Bool
 |0,x,y=>eqP x y
 |n+1,x,y=>match x,y with
  |.ref p,.ref q=>(match aY G p,aY G q with
   |some xs,aj ys=>mD (xT G n) xs ys
   |_,_=>ao)
  |.tup xs,.tup ys=>mD (xT G n) xs ys
  |x,y=>eqP x y
noncomputable abbrev ok2(G:Gp)(x y:D):Bool:=okN G 4 x y
noncomputable abbrev eq2(G:Gp)(x y:D):Bool:=xT G 4 x y
noncomputable abbrev av8(G:Gp)(xs ys:List D):Bool:=vK (okN G 4) xs ys
noncomputable abbrev av9(G:Gp)(xs ys:List D):Bool:=mD (xT G 4) xs ys
noncomputable def a2G(f:D->D->Bool)(xs ys:List D)(j:Nat):Bool:=match xs[j]?,ys[j]? with
 |some a,aj b=>f a b
 |_,_=>ao
theorem gM(f:D->D->Bool):∀(xs ys:List D),mD f xs ys=((jw (min xs.length ys.length)).all (a2G f xs ys)&&xs.length==ys.length)
 |[],[]=>rfl
 |[],y::ys=>by simp[mD]
 |x::xs,[]=>by simp[mD]
 |x::xs,y::ys=>by
  have ih:=gM f xs ys;have e:min (x::xs).length (y::ys).length=min xs.length ys.length+1:=by simp only[lg];omega
  rw[mD,ih,e,vB];have e0:a2G f (x::xs) (y::ys) 0=f x y:=rfl
  have e1:(λj=>a2G f (x::xs) (y::ys) (j+1))=a2G f xs ys:=by
   funext j;simp[a2G]
  have e2:((x::xs).length==(y::ys).length)=(xs.length==ys.length):=by
   simp only[lg];by_cases h:xs.length=ys.length
   .simp[h]
   .have h':¬ (xs.length+1=ys.length+1):=by omega
    simp[h,h']
  rw[e0,e1,e2,Bool.and_assoc]
theorem xD:∀{xs ys:List D}{j:Nat}{x y:D},vK f xs ys=ak->xs[j]?=aj x->ys[j]?=aj y->f x y=ak
 |[],_,_,_,_,_,h,_=>by simp at h
 |_::_,[],_,_,_,_,_,h=>by simp at h
 |a::xs,b::ys,0,x,y,h,e1,e2=>by
  rw[vK,bx]at h;simp at e1 e2;subst e1;subst e2;exact h.1
 |a::xs,b::ys,j+1,x,y,h,e1,e2=>by
  rw[vK,bx]at h;exact xD h.2 (by simpa using e1) (by simpa using e2)
theorem xE{g:D->D->Bool}(h:∀x,f x x=ak->g x x=ak):∀{xs:List D},vK f xs xs=ak->mD g xs xs=ak
 |[],_=>rfl
 |x::xs,q=>by
  rw[vK,bx]at q;rw[mD,h x q.1,xE h q.2];rfl
theorem vL:∀(n:Nat)(x:D),okN G n x x=ak->xT G n x x=ak
 |0,x,h=>rE (n:=10) (by have:(aQ 10 x&&aQ 10 x)=ak:=h;rwa [Bool.and_self]at this)
 |n+1,x,h=>by
  cases x with
  |ref p =>
   replace h:(match aY G p,aY G p with
    |some xs,aj ys=>vK (okN G n) xs ys
    |_,_=>ao)=ak:=h
   show(match aY G p,aY G p with
    |some xs,aj ys=>mD (xT G n) xs ys
    |_,_=>ao)=ak
   cases e:aY G p with
   |none=>rw[e]at h;cases h
   |some xs=>rw[e]at h;exact xE (vL n) h
  |tup xs=>exact xE (vL n) (show vK (okN G n) xs xs=ak from h)
  |non=>rfl
  |bl b=>cases b<;>rfl
  |int i=>exact rE (n:=10) rfl
  |str z=>exact rE (n:=10) rfl
  |ty m=>cases h
section
variable{X:Cx}
theorem a5K{K:Fg}{us ws:List aq}(rx:bW K H xs vx)(ry:bW K H ys vy)(vx':Vals vx us)(vy':Vals vy ws)
  (ih:∀(j:Nat)(x y:D),xs[j]?=aj x->ys[j]?=aj y->∀(v w:V)(u t:aq),RD K H x v->RD K H y w->RelV v u->RelV w t->SeqAt.EqAt A s u t (f x y)) :
  ∀j (h1:j<us.toArray.size) (h2:j<ws.toArray.size),SeqAt.EqAt A s us.toArray[j] ws.toArray[j] (a2G f xs ys j):=by
 intro j h1 h2;have e1:us[j]?=aj us.toArray[j]:=by simp[gV (show j<us.length by simpa using h1)]
 have e2:ws[j]?=aj ws.toArray[j]:=by simp[gV (show j<ws.length by simpa using h2)]
 obtain⟨d,x,f1,f2,f3⟩:=Vals.ajO rx vx' e1;obtain⟨d',y,g1,g2,g3⟩:=Vals.ajO ry vy' e2;have e:a2G f xs ys j=f d d':=by simp[a2G,f1,g1]
 rw[e];exact ih j d d' f1 g1 x y _ _ f2 g2 f3 g3
set_option tactic.hygienic true in
theorem ap9(I:Inv X pins σ H s):∀(n:Nat){x y:D}{v:V},okN G n x y=ak->RD X.K H x v->RD X.K H y v->xT G n x y=ak:=by
 have base:∀{x y:D}{v:V},(aQ 10 x&&aQ 10 y)=ak->RD X.K H x v->RD X.K H y v->eqP x y=ak:=λh rx ry=>by
  rw[bx]at h;rw[RD.inj I h.1 h.2 rx ry];exact rE h.2
 have lists:∀(n:Nat),(∀{x y:D}{v:V},okN G n x y=ak->RD X.K H x v->RD X.K H y v->xT G n x y=ak)->∀{xs ys:List D}{vs:List V},vK (okN G n) xs ys=ak->bW X.K H xs vs->bW X.K H ys vs->mD (xT G n) xs ys=ak:=λn ih {xs ys vs} h r1 r2=>by
  rw[gM,r1.length,r2.length];simp only[Nat.min_self,beq_self_eq_true,Bool.and_true,jy,xg];intro j hj;obtain⟨d,e1,q1⟩:=r1.am9 (gV hj);obtain⟨d',e2,q2⟩:=r2.am9 (gV hj);unfold a2G;rw[e1,e2];exact ih (xD h e1 e2) q1 q2
 intro n
 induction n with
 |zero=>exact λh rx ry=>base h rx ry
 |succ n ih =>
  intro x y v h rx ry;unfold okN at h;unfold xT;split at h
  .rename_i p q;cases rx;cases ry;split at h
   .rename_i xs ys e1 e2;rw[e1]at e2;cases e2;exact xE (vL n) h
   .cases h
  .rename_i xs ys;cases rx with
   |@tup a vs _ h1 r1 _ =>
   cases ry with
   |@tup _ ws _ h2 r2 _ =>
   obtain rfl:=I.xA h1 h2;exact lists n ih h r1 r2
  .rename_i n1 n2;exact base h rx ry
set_option tactic.hygienic true in
theorem apA(I:Inv X pins σ H s)(g:HR X.K H G):∀(n:Nat)(A:jr){x y:D}{vx vy:V}{u v:aq},A.units+12+n<jl->okN G n x y=ak->RD X.K H x vx->RD X.K H y vy->RelV vx u->RelV vy v->SeqAt.EqAt A s u v (xT G n x y):=by
 intro n
 induction n with
 |zero =>
  intro A x y vx vy u v hu h rx ry ru rv;have h':(aQ 10 x&&aQ 10 y)=ak:=h;rw[bx]at h';exact zG I 10 A x y vx vy u v (by omega) h'.1 h'.2 rx ry ru rv
 |succ n ih =>
  intro A x y vx vy u v hu h rx ry ru rv;have all:=h
  have hu1:A.in1.units+12+n<jl:=by
   show A.units+1+12+n<jl;omega
  unfold okN at h;split at h
  .rename_i p q;split at h
   .rename_i xs ys e1 e2;cases rx;cases ry;cases ru;cases rv;by_cases hpq:p=q
    .subst hpq;rw[ap9 I _ all (.ref p) (.ref p)];exact SeqAt.EqAt.same _
    .have e:xT G (n+1) (.ref p) (.ref q)=mD (xT G n) xs ys:=by
      show(match aY G p,aY G q with
       |some xs,aj ys=>mD (xT G n) xs ys
       |_,_=>ao)=_
      rw[e1,e2]
     rw[e];obtain⟨v1,h1,r1⟩:=bU g e1;obtain⟨v2,h2,r2⟩:=bU g e2;obtain⟨its,vv,q1,_⟩:=I.list h1;obtain⟨jts,ww,q2,_⟩:=I.list h2;have pts:=a5K (f:=xT G n) r1 r2 vv ww λj x y e1 e2 v w u t q1 q2 q3 q4=>ih A.in1 hu1 (xD h e1 e2) q1 q2 q3 q4;have s1:its.toArray.size=xs.length:=by rw[gk,←vv.length,←r1.length]
     have s2:jts.toArray.size=ys.length:=by rw[gk,←ww.length,←r2.length]
     refine SeqAt.EqAt.of_refs hpq ?_;by_cases hl:xs.length=ys.length
     .have z:=SeqAt.RcAt.lists q1.isList q2.isList (show its.toArray.size=jts.toArray.size by rw[s1,s2];exact hl) (by omega) pts
      have e:(jw its.toArray.size).all (a2G (xT G n) xs ys)=mD (xT G n) xs ys:=by
       rw[gM,s1,hl];simp
      rw[e]at z;exact z
     .rw[gM,show(xs.length==ys.length)=ao by simpa using hl,a2y];exact SeqAt.RcAt.lists_lengths q1.isList q2.isList (by rw[s1,s2];simpa using hl) (by omega)
   .cases h
  .rename_i xs ys;cases rx with
   |@tup a1 xs1 _ h1 r1 c1 =>
   cases ry with
   |@tup a2 xs2 _ h2 r2 c2 =>
   cases ru;cases rv;by_cases hpq:a1=a2
   .subst hpq;rw[ap9 I _ all (.tup h1 r1 c1) (.tup h2 r2 c2)];exact SeqAt.EqAt.same _
   .obtain⟨its,vv,px,_⟩:=I.tuple h1;obtain⟨jts,ww,py,_⟩:=I.tuple h2;have pts:=a5K (f:=xT G n) r1 r2 vv ww λj x y e1 e2 v w u t q1 q2 q3 q4=>ih A.in1 hu1 (xD h e1 e2) q1 q2 q3 q4;have z:=SeqAt.RcAt.tuples (show s.heap.IsTuple a1 its.toArray from px) (show s.heap.IsTuple a2 jts.toArray from py) (by omega) pts
    have e:((jw (min its.toArray.size jts.toArray.size)).all (a2G (xT G n) xs ys)&&its.toArray.size==jts.toArray.size)=xT G (n+1) (.tup xs) (.tup ys):=by
     show _=mD (xT G n) xs ys;rw[gM,gk,gk,←vv.length,←ww.length,←r1.length,←r2.length]
    rw[e]at z;exact SeqAt.EqAt.of_refs hpq z
  .rename_i n1 n2;rw[bx]at h;have b:=zG I 10 A x y vx vy u v (by omega) h.1 h.2 rx ry ru rv;unfold xT;split
   ·exact(n1 _ _ rfl rfl).elim
   .exact(n2 _ _ rfl rfl).elim
   .exact b
theorem apB(I:Inv X pins σ H s)(g:HR X.K H G)(hu:A.units+20<jl)(h:ok2 G x y=ak)(rx:RD X.K H x vx)(ry:RD X.K H y vy)(ru:RelV vx u)(rv:RelV vy v):SeqAt.EqAt A s u v (eq2 G x y):=apA I g 4 A (by omega) h rx ry ru rv
def apC(G:Gp)(x y:D)(k:Bool->Prop):Prop:=match x,y with
 |.tup xs,.tup ys=>av8 G xs ys=ak/\k (av9 G xs ys)
 |.ref a,.ref b=>(match aY G a,aY G b with
  |some xs,aj ys=>av8 G xs ys=ak/\k (av9 G xs ys)
  |_,_=>False)
 |_,_=>False
noncomputable def ayU:R3:=λx y G R=>apC G x y λb=>R (.bl b) G
noncomputable def a6P:R3:=λx y G R=>apC G x y λb=>R (.bl (!b)) G
set_option tactic.hygienic true in
theorem aeD(hu:X.A.units+64<jl)(hop:op=if neg then .NotEq else .Eq){k:Bool->Prop}{Q:VK}(I:Inv X pins σ H s)(rx:RD X.K H x vx)(ry:RD X.K H y vy)(ru:RelV vx u)(rv:RelV vy v)(g:HR X.K H G)
  (h:apC G x y k)(hk:∀b,k b->EP X pins σ Q (.bool (neg ^^ b)) s):dg (fj X.prog X.w) X.A (jd op u v) (EP X pins σ Q) X.xe s:=by
 have fin:∀{b:Bool},(if neg then SeqAt.RcNeAt X.A s u v (!b)else SeqAt.RcAt X.A s u v b)->k b->dg (fj X.prog X.w) X.A (jd op u v) (EP X pins σ Q) X.xe s:=λ{b} z kb=>by
  have e:=hk b kb;cases neg with
  |true =>
   subst hop;rw[Bool.true_xor]at e;exact z X.prog X.w X.xe _ e
  |false =>
   subst hop;rw[a2z]at e;exact z X.prog X.w X.xe _ e
 have hu0:X.A.units<jl:=by omega
 have hu1:X.A.in1.units+20<jl:=by
  show X.A.units+1+20<jl;omega
 unfold apC at h;split at h
 .rename_i ds es;obtain⟨ok,kk⟩:=h;cases rx with
  |@tup a1 xs1 _ h1 r1 =>
   cases ry with
   |@tup a2 xs2 _ h2 r2 =>
    cases ru;cases rv;obtain⟨its,vv,px,_⟩:=I.tuple h1;obtain⟨jts,ww,py,_⟩:=I.tuple h2;have pts:=a5K (f:=eq2 G) r1 r2 vv ww λj x y e1 e2 v w u t q1 q2 q3 q4=>apB (A:=X.A.in1) I g hu1 (xD ok e1 e2) q1 q2 q3 q4
    have e:((jw (min its.toArray.size jts.toArray.size)).all (a2G (eq2 G) ds es)&&its.toArray.size==jts.toArray.size)=mD (eq2 G) ds es:=by
     rw[gM,gk,gk,←vv.length,←ww.length,←r1.length,←r2.length]
    refine fin (b:=mD (eq2 G) ds es) ?_ kk;cases neg with
    |true =>
     have z:=SeqAt.RcNeAt.tuples (show s.heap.IsTuple a1 its.toArray from px) (show s.heap.IsTuple a2 jts.toArray from py) hu0 pts;rw[e]at z;exact z
    |false =>
     have z:=SeqAt.RcAt.tuples (show s.heap.IsTuple a1 its.toArray from px) (show s.heap.IsTuple a2 jts.toArray from py) hu0 pts;rw[e]at z;exact z
 .rename_i a b;split at h
  .rename_i ds es e1 e2;obtain⟨ok,kk⟩:=h;cases rx;cases ry;cases ru;cases rv;obtain⟨v1,h1,r1⟩:=bU g e1;obtain⟨v2,h2,r2⟩:=bU g e2;obtain⟨its,vv,q1,_⟩:=I.list h1;obtain⟨jts,ww,q2,_⟩:=I.list h2;have p1:=q1.isList;have p2:=q2.isList;have pts:=a5K (f:=eq2 G) r1 r2 vv ww λj x y e1 e2 v w u t q1 q2 q3 q4=>apB (A:=X.A.in1) I g hu1 (xD ok e1 e2) q1 q2 q3 q4;have s1:its.toArray.size=ds.length:=by rw[gk,←vv.length,←r1.length]
   have s2:jts.toArray.size=es.length:=by rw[gk,←ww.length,←r2.length]
   refine fin (b:=mD (eq2 G) ds es) ?_ kk;by_cases hl:ds.length=es.length
   .have hsz:its.toArray.size=jts.toArray.size:=by rw[s1,s2];exact hl
    have e:(jw its.toArray.size).all (a2G (eq2 G) ds es)=mD (eq2 G) ds es:=by
     rw[gM,s1,hl];simp
    cases neg with
    |true =>
     have z:=SeqAt.RcNeAt.lists p1 p2 hsz hu0 pts;rw[e]at z;exact z
    |false =>
     have z:=SeqAt.RcAt.lists p1 p2 hsz hu0 pts;rw[e]at z;exact z
   .have hne:(its.toArray.size !=jts.toArray.size)=ak:=by rw[s1,s2];simpa using hl
    have e:mD (eq2 G) ds es=ao:=by
     rw[gM];have:(ds.length==es.length)=ao:=by simpa using hl
     rw[this,a2y]
    rw[e];cases neg with
    |true=>exact SeqAt.RcNeAt.lists_lengths p1 p2 hne hu0
    |false=>exact SeqAt.RcAt.lists_lengths p1 p2 hne hu0
  .exact h.elim
 .exact h.elim
theorem aIC(hu:X.A.units+64<jl):jY X (jd .Eq) ayU:=vG λpins s σ H x y vx vy u v G R Q I rx ry ru rv g q k =>
 aeD (neg:=false) hu rfl I rx ry ru rv g q λb kb=>⟨.bl b,H,I,by rw[a2z];rfl,k _ H (.bl b) G (.refl H) (.bl b) g kb⟩
theorem aID(hu:X.A.units+64<jl):jY X (jd .NotEq) a6P:=vG λpins s σ H x y vx vy u v G R Q I rx ry ru rv g q k =>
 aeD (neg:=true) hu rfl I rx ry ru rv g q λb kb=>⟨.bl (!b),H,I,by rw[Bool.true_xor];rfl,k _ H (.bl (!b)) G (.refl H) (.bl (!b)) g kb⟩
def apD(x:D)(G:Gp)(f:bw->List D->Prop):Prop:=match x with
 |.ref p=>(match G p with
  |some (.lst ds)=>f p ds
  |_=>False)
 |_=>False
set_option tactic.hygienic true in
theorem apE{K:Fg}(rx:RD K H x vx)(g:HR K H G)(h:apD x G f):∃p ds xs,x=.ref p/\vx=.ref p/\G p=aj (.lst ds)/\H p=aj (.lst xs)/\bW K H ds xs/\f p ds:=by
 unfold apD at h;split at h
 .rename_i p;split at h
  .rename_i ds e;cases rx;obtain⟨xs,e1,r⟩:=g p _ e;exact⟨p,ds,xs,rfl,rfl,e,e1,r,h⟩
  .exact h.elim
 .exact h.elim
noncomputable def ayV:RM3:=λx xs G R=>match xs with
 |[]=>apD x G λp ds=>match ds[ds.length - 1]? with
  |some d=>R d (aH G p (.lst ds.dropLast))
  |none=>False
 |_=>False
theorem a0H{K:Fg}:∀{ds:List D}{xs:List V},bW K H ds xs->bW K H ds.dropLast xs.dropLast
 |_,_,.nil=>.nil
 |_,_,.cons h .nil=>.nil
 |_,_,.cons h (.cons h' r)=>.cons h (a0H (.cons h' r))
set_option tactic.hygienic true in
theorem ayW:a6L X "list.pop" ayV:=a6L.of aB4 λH x xs vx vs G R Q rx rs g q k=>by
 cases rs with
 |cons _ _=>exact False.elim q
 |nil =>
  obtain⟨p,ds,ys,rfl,rfl,e,e1,r,q'⟩:=apE rx g q;split at q'
  .rename_i d ed;obtain⟨v,ev,rv⟩:=r.get ed;have hl:ds.length=ys.length:=r.length;refine⟨p,ys,v,rfl,rfl,e1,by rw[←hl];exact ev,λ_=>?_⟩;have tt:Ts H (upd H p (.lst ys.dropLast)):=.turn e1 (λ_ z=>nomatch z) (λ_ _ z=>nomatch z);exact k _ _ _ _ tt (rv.mono tt) (g.turn (u:=.lst ds.dropLast) tt ⟨_,aK,(a0H r).mono tt⟩) q'
  .exact q'.elim
end
end
section
section
variable{X:Cx}{C:bw}{bmB bmN:List aq}{B Bn newId nid initId inN:String}{x:Str}{t:sS}
noncomputable def apF(C:bw)(t:sS):bV:=λρ G R=>t ρ G λds G1=>ds.length<=cu/\∀x,G1 x=bh->R (.ref x) (aH G1 x (.exn C))
theorem apG{x:bw}(I:Inv X pins σ H s)(hm:a2v s.heap h' x (.ref C) us) :
  ∃o vs,H x=bh/\Inv X pins σ (upd H x (.gF o (.ext (adX C x)))) {s with heap:=h' }/\o.data=.fields vs/\vs[2]?=aj .none:=by
 obtain⟨t,e1,_,_⟩:=hm.there;have nxH:H x=bh:=aoQ I.hok hm.new;refine⟨{cls:=.ref C,data:=.fields #[.ref t,.none,.none,.none,.bool ao,.none]},#[.ref t,.none,.none,.none,.bool ao,.none],nxH,?_,rfl,rfl⟩;generalize ho:({cls:=.ref C,data:=.fields #[.ref t,.none,.none,.none,.bool ao,.none]}:Obj)=o at e1;have sn:Same H (upd H x (.gF o (.ext (adX C x)))):=bG nxH;have nst:∀b u,s.heap.get? b=aj u->b≠x:=λb u e z=>by subst z;rw[hm.new]at e;cases e
 refine I.call' (ch:=[]) (s':={s with heap:=h' }) rfl ⟨λb u e n _ _=>hm.keeps b u e,λb u e n _ _=>⟨u.slots,hm.keeps b u e⟩,λb u e n _=>by rw[aU (nst b u e)];exact n,λb u e _=>⟨u,hm.keeps b u e⟩,λb xs z=>sn _ _ z,λb u v z=>sn _ _ z,λb ps z=>⟨#[],by rw[Array.append_empty];exact sn _ _ z⟩⟩ (λb u e=>?_) I.bare λb z=>absurd z (by simp);by_cases hb:b=x
 .subst hb;rw[aK]at e;cases e;exact⟨e1,⟨o,_,e1,by rw[←ho],by rw[←ho]⟩,⟨o,e1⟩,λh1 h2 ⟨o1,w1,e1,e2,e3⟩ k=>⟨o1,w1,k _ e1,e2,e3⟩⟩
 .rw[aU hb]at e;exact((I.hok.kept hm.keeps) b u e).stay (λ_ _ _ z=>z) (λc z=>sn _ _ z) λc xs z=>sn _ _ z
theorem aeE{σ:St}{H:Hp}{us:List aq}{G:Gp}{R:fZ}{Q:VK}(Fn:a0s Bn newId inN bmN)(hBn:bmB.contains (.type Bn)=ak)(FB:a0s B nid initId bmB)(hq:yg X.K C bmB newId=ak)(I:Inv X pins σ H s)(g:HR X.K H G)(hl:us.length<=cu)(q:∀x,G x=bh->R (.ref x) (aH G x (.exn C)))
  (k:∀v H' d G',Ts H H'->RD X.K H' d v->HR X.K H' G'->R d G'->Q v H'):dg (fj X.prog X.w) X.A (call (.ref C) us) (EP X pins σ Q) X.xe s:=by
 obtain⟨tl,N,nm,q',bs,hdct,sn,sub,ab,col,dd',k0,k1,k2,k3,k5,mN,hC,hN,hni,T⟩:=a5I I.mod.kin hq;obtain⟨h,g0,d0,t0,os0⟩:=s;refine wpAny_call_exc_subU (hrest:=hl) Fn hBn FB (T.keeps I.bk) (I.bk _ _ hC) (hN.keeps I.bk) hni λh' x hm=>?_;obtain⟨o,vs,nx,J,d1,d2⟩:=apG I hm;have sn:Same H (upd H x (.gF o (.ext (adX C x)))):=bG nx;exact⟨.ref x,_,J,rfl,k _ _ _ _ (.same sn) (.ref x) (g.put (u:=.exn C) nx ⟨o,vs,aK,d1,d2⟩) (q x (gH (K:=X.K) g nx (nG (X:=X) J)))⟩
theorem aIE(Fn:a0s Bn newId inN bmN)(hBn:bmB.contains (.type Bn)=ak)(FB:a0s B nid initId bmB)(hg:Gl X x)(hm:X.mg x=aj (.ref C))(hq:yg X.K C bmB newId=ak)(ha:PA3 X (e::es) t)(hd:(x==("__debug__":Str))=ao)
  (he:jg (e::es) X.env=(ao,eval e X.env)::jg es X.env)(hpl:(rm cpos (jg es X.env)).any (·.1)=ao):bY X (.Call (.Name x np) (e::es) [] cpos) (apF C t):=by
 intro pins s σ H Q I h;obtain⟨ρ,G,R,sr,g,q,kk⟩:=h;obtain⟨tl,N,nm,q',bs,hdct,sn,sub,ab,col,dd',k0,k1,k2,k3,k5,mN,hC,hN,hni,T⟩:=a5I I.mod.kin hq;refine wpAny_Call_ofName (pJ I hg hm ?_ hd);unfold callWith;have hA:=ha cpos pins s σ H (λvs H1=>Ts H H1/\∃ds G1,bW X.K H1 ds vs/\HR X.K H1 G1/\ds.length<=cu/\∀x,G1 x=bh->R (.ref x) (aH G1 x (.exn C))) I ⟨ρ,G,_,sr,g,q,λvs H1 ds G1 t1 r1 g1 q1=>⟨t1,ds,G1,r1,g1,q1.1,q1.2⟩⟩;have hp2:(rm cpos (jg (e::es) X.env)).any (·.1)=ao:=by rw[he];show(ao||(rm cpos (jg es X.env)).any (·.1))=ao;rw[hpl];rfl
 rw[he]at hA hp2 ⊢;refine au (qb (Calls.evalArgs_plain (cR hA λus s2 ⟨vs,H2,I2,r2,t1,ds,G1,r1,g1,hl,q1⟩=>au (wpAny_standAt ?_))));have hl2:us.length<=cu:=by rw[←r2.length,←r1.length];exact hl
 simp only[hp2];obtain⟨h0,g0,d0,t0,os0⟩:=s2;refine au (wpAny_keeperOf_exc (I2.bk _ _ hC) ?_);refine au (cR (aeE Fn hBn FB hq I2 g1 hl2 q1 λv H' d G' t3=>kk v H' d G' (t1.trans t3)) λv s3 q3=>au (qb (wpAny_point (cj q3))))
theorem aC9(Fn:a0s Bn newId inN bmN)(hBn:bmB.contains (.type Bn)=ak)(FB:a0s B nid initId bmB)(hg:Gl X x)(hm:X.mg x=aj (.ref C))(hq:yg X.K C bmB newId=ak)(hd:(x==("__debug__":Str))=ao):bY X (.Call (.Name x np) [] [] cpos) (apF C aG):=by
 intro pins s σ H Q I h;obtain⟨ρ,G,R,sr,g,⟨hl,q⟩,kk⟩:=h;obtain⟨tl,N,nm,q',bs,hdct,sn,sub,ab,col,dd',k0,k1,k2,k3,k5,mN,hC,hN,hni,T⟩:=a5I I.mod.kin hq;refine wpAny_Call_ofName (pJ I hg hm ?_ hd);unfold callWith;refine au (qb (PySem.evalArgs_none (au (wpAny_standAt ?_))));obtain⟨h0,g0,d0,t0,os0⟩:=s;refine au (wpAny_keeperOf_exc (I.bk _ _ hC) ?_);refine au (cR (aeE (us:=[]) Fn hBn FB hq I g (vh _) q kk) λv s3 q3=>au (qb (wpAny_point (cj q3))))
end
end
section
def apH(C:bw)(f:Str)(x:D)(G:Gp)(R:fZ):Prop:=match x with
 |.ref a=>(match G a with
  |some (.ins C' fs)=>C'=C/\(match fs.lookup f with
   |some d=>R d G
   |none=>False)
  |_=>False)
 |_=>False
noncomputable def kW(C:bw)(ta:bV)(f:Str):bV:=λρ G R=>ta ρ G λx G1=>apH C f x G1 R
set_option tactic.hygienic true in
theorem a6Q{K:Fg}:∀{fs:List (Str×D)}{vs:List (Str×V)}{d:D},Two (λp q=>p.1=q.1/\RD K H p.2 q.2) fs vs->fs.lookup f=aj d->∃v,vs.lookup f=aj v/\RD K H d v
 |_,_,_,.nil,e=>by cases e
 |(g,x)::fs,(g',y)::vs,d,.cons h r,e=>by
  obtain⟨rfl,h2⟩:=h;unfold xq at e ⊢;split at e
  .rename_i q;rw[q];cases e;exact⟨y,rfl,h2⟩
  .rename_i q;rw[q];exact a6Q r e
noncomputable def aeF(f:Str)(d:D):List (Str×D)->List (Str×D)
 |[]=>[(f,d)]
 |(g,x)::r=>if g=f then(g,d)::r else(g,x)::aeF f d r
theorem ajU{K:Fg}{v:V}(h:RD K H d v):∀{fs:List (Str×D)}{vs:List (Str×V)},Two (λp q=>p.1=q.1/\RD K H p.2 q.2) fs vs->Two (λp q=>p.1=q.1/\RD K H p.2 q.2) (aeF f d fs) (sX f v vs)
 |_,_,.nil=>.cons ⟨rfl,h⟩ .nil
 |(g,x)::fs,(g',y)::vs,.cons q r=>by
  obtain⟨rfl,q2⟩:=q;unfold aeF sX;by_cases c:g=f
  .rw[if_pos c,if_pos c];exact .cons ⟨rfl,h⟩ r
  .rw[if_neg c,if_neg c];exact .cons ⟨rfl,q2⟩ (ajU h r)
section
variable{X:Cx}{o:jk}{f:Str}{C:bw}{pos:Pos}{ta tv:bV}
set_option tactic.hygienic true in
theorem aIF(he:bY X e ta)(c:Cls X.K C)(n:lA X.K C f)(hb:uh e f X.env (eval e X.env)=eval e X.env):bY X (.Attribute e f pos) (kW C ta f):=by
 refine PE.imp (aAQ he hb) λσ H Q h=>?_;obtain⟨ρ,G,R,s,g,t,k⟩:=h;refine⟨ρ,G,_,s,g,t,λv H1 x G1 t1 rx g1 t'=>?_⟩;unfold apH at t';split at t'
 .rename_i a;split at t'
  .rename_i C' fs e1;obtain⟨rfl,t'⟩:=t';split at t'
   .rename_i d e2;obtain⟨dx,vs,e3,r⟩:=g1 a _ e1;obtain⟨w,e4,rw⟩:=a6Q r e2;cases rx;exact⟨a,_,dx,vs,w,rfl,e3,c,n,e4,k w H1 d G1 t1 rw g1 t'⟩
   .exact t'.elim
  .exact t'.elim
 .exact t'.elim
def aeG(C:bw)(f:Str)(x y:D)(F:cP)(ρ:aO)(G:Gp):Prop:=match x with
 |.ref a=>(match G a with
  |some (.ins C' fs)=>C'=C/\fs.length<1000/\F.nx ρ (aH G a (.ins C (aeF f y fs)))
  |_=>False)
 |_=>False
noncomputable def a2H(C:bw)(ta tv:bV)(f:Str):bK:=λF ρ G=>tv ρ G λy G1=>ta ρ G1 λx G2=>aeG C f x y F ρ G2
set_option tactic.hygienic true in
theorem aCA(ha:bY X o ta)(hv:bY X value tv)(c:Cls X.K C)(n:lA X.K C f)(hs:a0z value (aj (.Attribute o f pos')) pos.line X.env=pure ao):PS3 X (.Assign [.Attribute o f pos'] value pos) (a2H C ta tv f):=by
 refine PS.imp (aAR ha hv hs) λF σ H h=>?_;obtain⟨ρ,G,E,s,g,t,u⟩:=h;refine⟨ρ,G,_,s,g,t,λy H1 d G1 t1 ry g1 t'=>?_⟩;refine⟨ρ,G1,_,s.mono t1,g1,t',λv H2 x G2 t2 rx g2 t''=>?_⟩;unfold aeG at t'';split at t''
 .rename_i a;split at t''
  .rename_i C' fs e1;obtain⟨rfl,hl,t''⟩:=t'';obtain⟨dx,vs,e3,r⟩:=g2 a _ e1;have ry2:=ry.mono t2;have tt:Ts H2 (upd H2 a (.ins C' dx (sX f y vs))):=Ts.turn e3 (λ_ z=>by cases z) (λ_ _ z=>by cases z);cases rx;refine⟨a,_,dx,vs,rfl,e3,c,n,by rw[←r.length];exact hl,u.nx ρ _ σ _ ((s.mono t1).mono t2 |>.mono tt) (HR.turn g2 tt ?_) t''⟩;exact⟨dx,_,aK,(ajU ry2 r).imp λ_ _ q=>⟨q.1,q.2.mono tt⟩⟩
  .exact t''.elim
 .exact t''.elim
end
variable{Q:VK}
section
variable{X:Cx}{qt:Bool}{k:Nat}{f C:bw}{fd:kh}{ps:List Str}{sp:pH}{EX:aO->aX}{x m:Str}{p pos apos:Pos}{o:jk}{t:sS}{ta:bV}{dd:List D}{xB:List V}{ds:List aq}
set_option tactic.hygienic true in
theorem aeH{Q':VK}(F:cC qt X.prog X.w X.K X.mg X.base (jZ X.prog X.w) k f fd ps (cO X.K sp))(hr:gG qt k X.A)(hb:Binds X.K fd ps ds)(hd:Vals xB ds)
  (hx:∀e s',jZ X.prog X.w X.stack H s E e s'->X.xe e s')
  (I:Inv X pins σ H s)(r:Vals vs us)(h:cO X.K sp (vs++xB) H Q E)(hQ:∀v H',Ts H H'->Q v H'->Q' v H'):dg (fj X.prog X.w) X.A (call (.ref f) us) (EP X pins σ Q') X.xe s:=by
 have hl:(us++ds).length=ps.length:=by rw[←(r.append hd).length];exact F.len _ _ _ _ h
 refine wpAny_call (codeAny_mono (F.run X.A X.stack s H ⟨us,[]⟩ (us++ds) (vs++xB) Q E hr I.env0 (hb s us I.kIn hl) (r.append hd) h) λr s' hq=>?_);cases r with
 |error e=>exact hx e s' hq
 |ok fl =>
  cases fl with
  |ret u =>
   obtain⟨v,H',os,bare,un,hok,r,q⟩:=hq;exact⟨v,H',I.call' (ch:=[]) os un hok bare (λb z=>absurd z (by simp)),r,hQ v H' ⟨un.tups,un.jK⟩ q⟩
  |next=>exact False.elim hq
  |brk=>exact False.elim hq
  |cont=>exact False.elim hq
def aeI(C:bw)(m:Str)(x:D)(G:Gp):Prop:=∃a fs,x=.ref a/\G a=aj (.ins C fs)/\fs.lookup m=bh
noncomputable def eE(C:bw)(m:Str)(sp:pH)(dd:List D)(EX:aO->aX)(ta:bV)(t:sS):bV:=λρ G R=>ta ρ G λx G1=>aeI C m x G1/\t ρ G1 λds G2=>sp (x::(ds++dd)) G2 R (EX ρ)
set_option tactic.hygienic true in
theorem a6R{K:Fg}{f:Str}:∀{fs:List (Str×D)}{vs:List (Str×V)},Two (λp q=>p.1=q.1/\RD K H p.2 q.2) fs vs->fs.lookup f=bh->vs.lookup f=bh
 |_,_,.nil,e=>rfl
 |(g,x)::fs,(g',y)::vs,.cons h r,e=>by
  obtain⟨rfl,h2⟩:=h;unfold xq at e ⊢;split at e
  .cases e
  .rename_i q;rw[q];exact a6R r e
theorem avB(ho:bY X o ta)(c:Cls X.K C)(hm:Meth X.K C m f)(F:cC qt X.prog X.w X.K X.mg X.base (jZ X.prog X.w) k f fd ps (cO X.K sp))(hr:gG qt k X.A)(hb:Binds X.K fd ps ds)(hd:Vals xB ds)(hdd:∀H,bW X.K H dd xB)(hx:Cat X EX)
  (ha:PA3 X (e::es) t)(hst:jg (e::es) X.env=(ao,eval e X.env)::jg es X.env)(hpl:(rm pos (jg es X.env)).any (·.1)=ao)
  (ht:eval (.Call (.Attribute o m apos) (e::es) [] pos) X.env=(do
   let ov ←eval o X.env
   standAt apos.atName
   let(f,first) ←holding [ov] (getMethod ov m pl)
   callWith pos f first (rm pos (jg (e::es) X.env)) (backToKw pos (a0b [] X.env)))) :
  bY X (.Call (.Attribute o m apos) (e::es) [] pos) (eE C m sp dd EX ta t):=by
 intro pins s σ H Q I h;obtain⟨ρ,G,R,sr,g,q,kk⟩:=h;refine PySem.W.methodCall_KW (pl:=pl) (cR (ho pins s σ H (λv H1=>∃d G1,Ts H H1/\RD X.K H1 d v/\HR X.K H1 G1/\aeI C m d G1/\t ρ G1 λds G2=>sp (d::(ds++dd)) G2 R (EX ρ)) I ⟨ρ,G,_,sr,g,q,λv H1 d G1 t1 r1 g1 q1=>⟨d,G1,t1,r1,g1,q1⟩⟩) ?_) ht;rintro u s1 ⟨x,H1,I1,rx,d,G1,t1,r1,g1,⟨a,fs,ed,ea,el⟩,q1⟩;subst ed;cases r1;obtain rfl:u=aq.ref a:=rx;obtain⟨dx,vs,e3,r⟩:=g1 a _ ea;refine a67 I1 e3 c hm (a6R r el) ?_;refine a3a (first:=[.ref a]) (h₀:=X.base) I.ok.mod.kin hm.kp (cR (ha pos pins s1 σ H1 (λvs H2=>Ts H1 H2/\∃ds G2,bW X.K H2 ds vs/\HR X.K H2 G2/\sp (.ref a::(ds++dd)) G2 R (EX ρ)) I1 ⟨ρ,G1,_,sr.mono t1,g1,q1,λvs H2 ds G2 t2 r2 g2 q2=>⟨t2,ds,G2,r2,g2,q2⟩⟩) λus s2 ⟨vs,H2,I2,r,t2,pN,G2,r2,g2,q2⟩=>⟨I2.kIn,?_⟩) hst hpl;refine aeH (us:=.ref a::us) (vs:=.ref a::vs) (E:=yO X.K (EX ρ)) F hr hb hd (λe s' c=>hx.aa1 pins σ H2 s2 ρ e s' I2 ((sr.mono t1).mono t2) c) I2 (.cons rfl r) (Q:=λv H'=>∃d G',RD X.K H' d v/\HR X.K H' G'/\R d G') ⟨.ref a::(pN++dd),G2,R,EX ρ,.cons (.ref a) (r2.append (hdd H2)),g2,q2,λv H' d G' r3 g3 q3=>⟨d,G',r3,g3,q3⟩,λC H' G' g' q'=>⟨C,G',rfl,g',q'⟩⟩ (by rintro v H' t3 ⟨d,G',r3,g3,q3⟩;exact kk v H' d G' ((t1.trans t2).trans t3) r3 g3 q3)
theorem apI(ho:bY X o ta)(c:Cls X.K C)(hm:Meth X.K C m f)(F:cC qt X.prog X.w X.K X.mg X.base (jZ X.prog X.w) k f fd ps (cO X.K sp))(hr:gG qt k X.A)(hb:Binds X.K fd ps ds)(hd:Vals xB ds)(hdd:∀H,bW X.K H dd xB)(hx:Cat X EX)
  (ht:eval (.Call (.Attribute o m apos) [] [] pos) X.env=(do
   let ov ←eval o X.env
   standAt apos.atName
   let(f,first) ←holding [ov] (getMethod ov m pl)
   callWith pos f first (rm pos (jg [] X.env)) (backToKw pos (a0b [] X.env)))) :
  bY X (.Call (.Attribute o m apos) [] [] pos) (eE C m sp dd EX ta aG):=by
 intro pins s σ H Q I h;obtain⟨ρ,G,R,sr,g,q,kk⟩:=h;refine PySem.W.methodCall_KW (pl:=pl) (cR (ho pins s σ H (λv H1=>∃d G1,Ts H H1/\RD X.K H1 d v/\HR X.K H1 G1/\aeI C m d G1/\aG ρ G1 λds G2=>sp (d::(ds++dd)) G2 R (EX ρ)) I ⟨ρ,G,_,sr,g,q,λv H1 d G1 t1 r1 g1 q1=>⟨d,G1,t1,r1,g1,q1⟩⟩) ?_) ht;rintro u s1 ⟨x,H1,I1,rx,d,G1,t1,r1,g1,⟨a,fs,ed,ea,el⟩,q1⟩;subst ed;cases r1;obtain rfl:u=aq.ref a:=rx;obtain⟨dx,vs,e3,r⟩:=g1 a _ ea;refine a67 I1 e3 c hm (a6R r el) ?_;refine a2t (first:=[.ref a]) I1.kIn hm.kp ?_;refine aeH (us:=[.ref a]) (vs:=[.ref a]) (E:=yO X.K (EX ρ)) F hr hb hd (λe s' c=>hx.aa1 pins σ H1 s1 ρ e s' I1 (sr.mono t1) c) I1 (.cons rfl .nil) (Q:=λv H'=>∃d G',RD X.K H' d v/\HR X.K H' G'/\R d G') ⟨.ref a::dd,G1,R,EX ρ,.cons (.ref a) (hdd H1),g1,q1,λv H' d G' r3 g3 q3=>⟨d,G',r3,g3,q3⟩,λC H' G' g' q'=>⟨C,G',rfl,g',q'⟩⟩ (by rintro v H' t3 ⟨d,G',r3,g3,q3⟩;exact kk v H' d G' (t1.trans t3) r3 g3 q3)
noncomputable def a2I(C:bw)(sp:pH)(dd:List D)(EX:aO->aX)(t:sS):bV:=λρ G R=>t ρ G λds G1=>∀x,G1 x=bh->sp (.ref x::(ds++dd)) (aH G1 x (.ins C [])) (λv G2=>v=.non/\R (.ref x) G2) (EX ρ)
set_option tactic.hygienic true in
theorem aa9{σ:St}{H:Hp}{G:Gp}{R:fZ}{us:List aq}{vs:List V}{pN:List D}{ρ:aO}(M:Mk X.K C f)(F:cC qt X.prog X.w X.K X.mg X.base (jZ X.prog X.w) k f fd ps (cO X.K sp))(hr:gG qt (k+1) X.A)(hb:Binds X.K fd ps ds)(hd:Vals xB ds)(hdd:∀H,bW X.K H dd xB)(hx:Cat X EX)
  (I:Inv X pins σ H s)(sr:SR X.K H ρ σ)(g:HR X.K H G)(r:Vals vs us)(r2:bW X.K H pN vs)(h:∀x,G x=bh->sp (.ref x::(pN++dd)) (aH G x (.ins C [])) (λv G2=>v=.non/\R (.ref x) G2) (EX ρ))
  (hQ:∀v H' d G',Ts H H'->RD X.K H' d v->HR X.K H' G'->R d G'->Q v H'):dg (fj X.prog X.w) X.A (call (.ref C) us) (EP X pins σ Q) X.xe s:=by
 have n1:H (s.heap.objs.size+1)=bh:=I.hok.fresh (a1e _);have n0:H s.heap.objs.size=bh:=I.hok.fresh (dz _);have ne:s.heap.objs.size+1≠s.heap.objs.size:=Nat.succ_ne_self _;have I2:=Inv.made (C:=C) I
 have kl:X.K.lookup (s.heap.objs.size+1)=bh:=by
  cases q:X.K.lookup (s.heap.objs.size+1)with
  |none=>rfl
  |some u=>have:=nG I2 _ u q;rw[aK]at this;cases this
 have gn:G (s.heap.objs.size+1)=bh:=gH (o:=.ins C s.heap.objs.size []) g n1 λb u e=>by
  by_cases c:b=s.heap.objs.size+1
  .subst c;rw[kl]at e;cases e
  .rw[aU c];exact nG I b u e
 have t1:Ts H (upd H s.heap.objs.size (.own (s.heap.objs.size+1))):=.same (bG n0);have n1':upd H s.heap.objs.size (.own (s.heap.objs.size+1)) (s.heap.objs.size+1)=bh:=by rw[aU ne];exact n1
 have t2:Ts (upd H s.heap.objs.size (.own (s.heap.objs.size+1))) (upd (upd H s.heap.objs.size (.own (s.heap.objs.size+1))) (s.heap.objs.size+1) (.ins C s.heap.objs.size [])):=.same (bG n1');have g1:HR X.K (upd H s.heap.objs.size (.own (s.heap.objs.size+1))) G:=g.same (bG n0);have g2:HR X.K (upd (upd H s.heap.objs.size (.own (s.heap.objs.size+1))) (s.heap.objs.size+1) (.ins C s.heap.objs.size [])) (aH G (s.heap.objs.size+1) (.ins C [])):=g1.put n1' ⟨s.heap.objs.size,[],aK,.nil⟩
 have hq:cO X.K sp (V.ref (s.heap.objs.size+1)::(vs++xB)) (upd (upd H s.heap.objs.size (.own (s.heap.objs.size+1))) (s.heap.objs.size+1) (.ins C s.heap.objs.size [])) (λv H'=>v=.non/\∃G',HR X.K H' G'/\R (.ref (s.heap.objs.size+1)) G') (yO X.K (EX ρ)) :=
  ⟨.ref (s.heap.objs.size+1)::(pN++dd),_,_,EX ρ,.cons (.ref _) (((r2.mono t1).mono t2).append (hdd _)),g2,h _ gn,λv H' d G' r3 g3 q3=>by
   obtain⟨rfl,q3⟩:=q3;cases r3;exact⟨rfl,G',g3,q3⟩,λC H' G' g' q'=>⟨C,G',rfl,g',q'⟩⟩
 have rr:Vals (V.ref (s.heap.objs.size+1)::(vs++xB)) (aq.ref (s.heap.objs.size+1)::(us++ds)):=.cons rfl (r.append hd)
 have hl:(aq.ref (s.heap.objs.size+1)::us++ds).length=ps.length:=by
  have e:=rr.length;rw[F.len _ _ _ _ hq]at e;exact e.symm
 refine wpAny_call (ao5 (f:=f) I.kIn M.makes M.init (beq_iff_eq.mp M.fn) (codeAny_mono (F.run _ X.stack _ _ ⟨aq.ref (s.heap.objs.size+1)::us,[]⟩ (aq.ref (s.heap.objs.size+1)::(us++ds)) _ _ _ (hr.make C us [])
  (I2.env0.make C us []) (hb _ (aq.ref (s.heap.objs.size+1)::us) I2.kIn hl) rr hq) λr s' hq'=>?_))
 cases r with
 |error e=>exact hx.aa1 pins σ _ _ ρ e s' I2 ((sr.mono t1).mono t2) hq'
 |ok fl =>
  cases fl with
  |ret u =>
   obtain⟨v,H',os,bare,un,hok,rv,ev,G',g3,q3⟩:=hq';subst ev;exact⟨rv,⟨V.ref (s.heap.objs.size+1),H',I2.call' (ch:=[]) os un hok bare (λb z=>absurd z (by simp)),rfl,hQ _ H' (.ref _) G' ((t1.trans t2).trans ⟨un.tups,un.jK⟩) (.ref _) g3 q3⟩⟩
  |next=>exact False.elim hq'
  |brk=>exact False.elim hq'
  |cont=>exact False.elim hq'
theorem avC(M:Mk X.K C f)(F:cC qt X.prog X.w X.K X.mg X.base (jZ X.prog X.w) k f fd ps (cO X.K sp))(hr:gG qt (k+1) X.A)(hg:Gl X x)(hm:X.mg x=aj (.ref C))(hb:Binds X.K fd ps ds)(hd:Vals xB ds)(hdd:∀H,bW X.K H dd xB)(hx:Cat X EX)
  (ha:PA3 X (e::es) t)(hdb:(x==("__debug__":Str))=ao)(he:jg (e::es) X.env=(ao,eval e X.env)::jg es X.env)(hpl:(rm pos (jg es X.env)).any (·.1)=ao) :
  bY X (.Call (.Name x p) (e::es) [] pos) (a2I C sp dd EX t):=by
 intro pins s σ H Q I h;obtain⟨ρ,G,R,sr,g,q,kk⟩:=h;refine wg (pJ I hg hm ?_ hdb);refine a3a (h₀:=X.base) I.ok.mod.kin M.kp (cR (ha pos pins s σ H (λvs H1=>Ts H H1/\∃ds G1,bW X.K H1 ds vs/\HR X.K H1 G1/\∀x,G1 x=bh->sp (.ref x::(ds++dd)) (aH G1 x (.ins C [])) (λv G2=>v=.non/\R (.ref x) G2) (EX ρ)) I ⟨ρ,G,_,sr,g,q,λvs H1 ds G1 t1 r1 g1 q1=>⟨t1,ds,G1,r1,g1,q1⟩⟩) λus s1 ⟨vs,H1,I1,r,t1,ds,G1,r1,g1,q1⟩=>⟨I1.kIn,?_⟩) he hpl;exact aa9 M F hr hb hd hdd hx I1 (sr.mono t1) g1 r r1 q1 λv H' d G' t2=>kk v H' d G' (t1.trans t2)
theorem apJ(M:Mk X.K C f)(F:cC qt X.prog X.w X.K X.mg X.base (jZ X.prog X.w) k f fd ps (cO X.K sp))(hr:gG qt (k+1) X.A)(hg:Gl X x)(hm:X.mg x=aj (.ref C))(hb:Binds X.K fd ps ds)(hd:Vals xB ds)(hdd:∀H,bW X.K H dd xB)(hx:Cat X EX)
  (hdb:(x==("__debug__":Str))=ao):bY X (.Call (.Name x p) [] [] pos) (a2I C sp dd EX aG):=by
 intro pins s σ H Q I h;obtain⟨ρ,G,R,sr,g,q,kk⟩:=h;refine wg (pJ I hg hm ?_ hdb);exact a2t I.kIn M.kp (aa9 (us:=[]) (vs:=[]) (pN:=[]) M F hr hb hd hdd hx I sr g .nil .nil q λv H' d G' t2=>kk v H' d G' t2)
end
end
variable{t':Nat}
section
section
variable{X:Cx}{pins:List (bw×Obj)}{σ:St}{H:Hp}{s:dh}{h':jj}
theorem Inv.amI{ch:List bw}{o:HO}(I:Inv X pins σ H s)(k:∀b u,b∉ch->s.heap.get? b=aj u->h'.get? b=aj u)(hc:∀b∈ch,a1W X pins H b)(ha:s.heap.objs.size<=a)(new:dW X.prog X.w (upd H a o) h' a o):Inv X pins σ (upd H a o) {s with heap:=h',toks:=t' }:=by
 have nit:∀b u,H b=aj u->b∉ch:=λb u e z=>by rw[(hc b z).1]at e;cases e
 have fr:H a=bh:=I.hok.fresh ha;have sn:Same H (upd H a o):=bG fr;have na:∀b u,s.heap.get? b=aj u->b≠a:=λb u e z=>absurd (jm (gw e) (z ▸ ha)) (ur _);refine I.step (g':=s.gens) (d':=s.drawn) (ch:=ch) (λb hb=>?_) (λb o _ _ hn e _=>k b o hn e) (λb o _ _ hn e _=>⟨o.slots,k b o hn e⟩) (λb u _ e n=>by rw[aU (na b u e)];exact n) (λb o hn e=>⟨o,k b o hn e⟩) (λb xs e=>sn _ _ e) (λb o u e=>sn _ _ e) (λb ps e=>⟨#[],by rw[sn _ _ e];simp⟩) (λm hm=>?_) (λb u e=>?_) I.bare
 .obtain⟨_,f1,_,f3,f4,f5⟩:=hc b hb;exact⟨f3,f1,f4,f5⟩
 .obtain⟨o,es,ep,ho,r⟩:=hm;exact⟨o,es,ep,k _ o (λz=>(hc _ z).2.1 rfl) ho,r⟩
 .by_cases hb:b=a
  .subst hb;rw[aK]at e;cases e;exact new
  .rw[aU hb]at e;refine(I.hok b u e).stay (λc v hcc q=>k c v ?_ q) (λ_ q=>sn _ _ q) λ_ _ q=>sn _ _ q;rcases hcc with z|z
   .rw[z];exact nit b u e
   .exact nit c _ z
end
section
end
section
end
section
end
end
section
noncomputable def apK:D->Option Key
 |.int i=>aj (.inl i)
 |.str x=>aj (.inr x)
 |_=>bh
noncomputable def a2J:List D->Option (List Key)
 |[]=>aj []
 |d::r=>match apK d,a2J r with
  |some k,aj ks=>aj (k::ks)
  |_,_=>bh
noncomputable def xU:D->Option DK
 |.int i=>aj (.inl (.inl i))
 |.str x=>aj (.inl (.inr x))
 |.tup ds=>(match a2J ds with
  |some ks=>aj (.inr ks)
  |none=>bh)
 |_=>bh
noncomputable def pO:DK->Bool
 |.inl _=>ao
 |.inr _=>ak
section
variable{κ:Type}[DecidableEq κ]{α:Type}
noncomputable def aJ:List (κ×α)->κ->Option α
 |[],_=>bh
 |p::r,k=>if p.1=k then aj p.2 else aJ r k
noncomputable def bQ(kvs:List (κ×α))(k:κ)(v:α):List (κ×α):=if(aJ kvs k).isSome=ak then kvs.map (λkv=>if kv.1=k then(kv.1,v)else kv)else kvs++[(k,v)]
noncomputable def bJ(kvs:List (κ×α))(k:κ):List (κ×α):=kvs.filter λkv=>!decide (kv.1=k)
end
variable{v:V}
theorem ajV{K:Fg}{k:Key}(r:RD K H d v)(e:apK d=aj k):v=kV k:=by
 cases r<;>first
  |(cases e;rfl)
  |cases e
set_option tactic.hygienic true in
theorem a6S{K:Fg}:∀{ds:List D}{vs:List V}{ks:List Key},bW K H ds vs->a2J ds=aj ks->vs=ks.map kV
 |_,_,_,.nil,e=>by cases e;rfl
 |d::ds,v::vs,ks,.cons h r,e=>by
  unfold a2J at e;split at e
  .rename_i k ks' e1 e2;cases e;rw[ajV h e1,a6S r e2];rfl
  .cases e
noncomputable abbrev qO{κ:Type}(K:Fg)(H:Hp)(f:κ->DK):List (DK×D)->List (κ×V)->Prop:=Two λp q=>p.1=f q.1/\RD K H p.2 q.2
section
variable{κ:Type}[DecidableEq κ]{K:Fg}
theorem val_two(hf:∀a b,f a=f b->a=b){k:κ}:∀{kvs:List (DK×D)}{xs:List (κ×V)},qO K H f kvs xs->(∀d,aJ kvs (f k)=aj d->∃v,uU xs k=aj v/\RD K H d v)/\(aJ kvs (f k)=bh->uU xs k=bh)
 |_,_,.nil=>⟨λd e=>(nomatch e),λ_=>rfl⟩
 |p::kvs,q::xs,.cons h r=>by
  obtain⟨h1,h2⟩:=h;by_cases c:q.1=k
  .have c2:p.1=f k:=by rw[h1,c]
   unfold aJ;rw[if_pos c2,uY c];exact⟨λd e=>by cases e;exact⟨_,rfl,h2⟩,λe=>(nomatch e)⟩
  .have c2:¬ p.1=f k:=λz=>c (hf _ _ (h1.symm.trans z));unfold aJ;rw[if_neg c2,uZ c];exact val_two hf r
theorem apL(hf:∀a b,f a=f b->a=b){k:κ}(t:qO K H f kvs xs):(aJ kvs (f k)).isSome=(uU xs k).isSome:=by
 have z:=val_two hf (k:=k) t;cases e:aJ kvs (f k)with
 |none=>rw[z.2 e];rfl
 |some d=>obtain⟨v,e2,_⟩:=z.1 d e;rw[e2];rfl
theorem ajW{g:DK×D->DK×D}{h:κ×V->κ×V}(gh:∀p q,p.1=f q.1/\RD K H p.2 q.2->(g p).1=f (h q).1/\RD K H (g p).2 (h q).2):∀{kvs:List (DK×D)}{xs:List (κ×V)},qO K H f kvs xs->qO K H f (kvs.map g) (xs.map h)
 |_,_,.nil=>.nil
 |_,_,.cons z r=>.cons (gh _ _ z) (ajW gh r)
theorem aeJ{p:DK×D}{q:κ×V}(z:p.1=f q.1/\RD K H p.2 q.2):∀{kvs:List (DK×D)}{xs:List (κ×V)},qO K H f kvs xs->qO K H f (kvs++[p]) (xs++[q])
 |_,_,.nil=>.cons z .nil
 |_,_,.cons y r=>.cons y (aeJ z r)
theorem a0I(hf:∀a b,f a=f b->a=b){k:κ}(rd:RD K H d v)(t:qO K H f kvs xs):qO K H f (bQ kvs (f k) d) (putK xs k v):=by
 unfold bQ putK;rw[a68,apL hf t];split
 ·refine ajW ?_ t;rintro p q ⟨h1,h2⟩;by_cases c:q.1=k
  .rw[if_pos (show p.1=f k by rw[h1,c]),if_pos c];exact⟨h1,rd⟩
  .rw[if_neg (show ¬ p.1=f k from λz=>c (hf _ _ (h1.symm.trans z))),if_neg c];exact⟨h1,h2⟩
 .exact aeJ (p:=(f k,d)) (q:=(k,v)) ⟨rfl,rd⟩ t
end
theorem m7(a b:Key)(h:(Sum.inl a:DK)=.inl b):a=b:=by cases h;rfl
theorem jO(a b:List Key)(h:(Sum.inr a:DK)=.inr b):a=b:=by cases h;rfl
def rF(x y:D)(G:Gp)(P:bw->Bool->List (DK×D)->DK->Prop):Prop:=match x with
 |.ref a=>(match G a,xU y with
  |some (.bC t kvs),aj k=>pO k=t/\P a t kvs k
  |_,_=>False)
 |_=>False
noncomputable def a6T(K:Fg)(H:Hp)(a:bw)(vy:V)(kvs:List (DK×D))(k:DK):Prop :=
 (∃k' xs,k=.inl k'/\H a=aj (.dK xs)/\qO K H .inl kvs xs/\vy=kV k')∨∃ks xs b,k=.inr ks/\H a=aj (.dT xs)/\qO K H .inr kvs xs/\vy=.ref b/\H b=aj (.tup (ks.map kV))
set_option tactic.hygienic true in
theorem ac5{K:Fg}{k:DK}(ry:RD K H y vy)(e:xU y=aj k):(∃k',k=.inl k'/\vy=kV k')∨∃ks b,k=.inr ks/\vy=.ref b/\H b=aj (.tup (ks.map kV)):=by
 cases ry with
 |int i=>cases e;exact .inl ⟨_,rfl,rfl⟩
 |str x=>cases e;exact .inl ⟨_,rfl,rfl⟩
 |@tup a xs ds hq r e0 =>
  have e':(match a2J ds with
   |some ks=>aj (Sum.inr ks:DK)
   |none=>bh)=aj k:=e
  split at e'
  .rename_i ks e1;cases e';have:=a6S r e1;subst this;exact .inr ⟨ks,a,rfl,rfl,e0⟩
  .cases e'
 |_=>cases e
set_option tactic.hygienic true in
theorem rG{K:Fg}(rx:RD K H x vx)(ry:RD K H y vy)(g:HR K H G)(h:rF x y G P) :
  ∃a kvs k,x=.ref a/\vx=.ref a/\G a=aj (.bC (pO k) kvs)/\xU y=aj k/\P a (pO k) kvs k/\a6T K H a vy kvs k:=by
 unfold rF at h;split at h
 .rename_i a;split at h
  .rename_i t kvs k e1 e2;obtain⟨rfl,h⟩:=h;cases rx;refine⟨a,kvs,k,rfl,rfl,e1,e2,h,?_⟩;rcases g a _ e1 with⟨z,xs,e3,r⟩|⟨z,xs,e3,r⟩
   .rcases ac5 ry e2 with⟨k',rfl,rfl⟩|⟨ks,b,rfl,_⟩
    .exact .inl ⟨k',xs,rfl,e3,r,rfl⟩
    .cases z
   .rcases ac5 ry e2 with⟨k',rfl,rfl⟩|⟨ks,b,rfl,rfl,eb⟩
    .cases z
    .exact .inr ⟨ks,xs,b,rfl,e3,r,rfl,eb⟩
  .exact h.elim
 .exact h.elim
theorem a6T.get{K:Fg}{k:DK}(h:a6T K H a vy kvs k):(∀d,aJ kvs k=aj d->∃v,zB H a vy (aj v)/\RD K H d v)/\(aJ kvs k=bh->zB H a vy bh):=by
 rcases h with⟨k',xs,rfl,e,r,rfl⟩|⟨ks,xs,b,rfl,e,r,rfl,eb⟩
 .have z:=val_two m7 (k:=k') r;exact⟨λd e2=>(z.1 d e2).elim λv q=>⟨v,by rw[←q.1];exact .k e,q.2⟩,λe2=>by rw[←z.2 e2];exact .k e⟩
 .have z:=val_two jO (k:=ks) r;exact⟨λd e2=>(z.1 d e2).elim λv q=>⟨v,by rw[←q.1];exact .t e eb,q.2⟩,λe2=>by rw[←z.2 e2];exact .t e eb⟩
theorem a6T.any{K:Fg}{k:DK}(h:a6T K H a vy kvs k):∃o,zB H a vy o/\o.isSome=(aJ kvs k).isSome/\∀d v,RD K H d v->RD K H ((aJ kvs k).getD d) (o.getD v):=by
 have z:=h.get;cases e:aJ kvs k with
 |none=>exact⟨bh,z.2 e,rfl,λd v r=>r⟩
 |some d=>obtain⟨v,g,r⟩:=z.1 d e;exact⟨aj v,g,rfl,λ_ _ _=>r⟩
theorem a6T.put{K:Fg}{kvs:List (DK×D)}{k:DK}(g:HR K H G)(h:a6T K H a vy kvs k)(rv:RD K H d v)(hl:kvs.length<cu):∃H',ah7 H a vy v H'/\Ts H H'/\HR K H' (aH G a (.bC (pO k) (bQ kvs k d))):=by
 rcases h with⟨k',xs,rfl,e,r,rfl⟩|⟨ks,xs,b,rfl,e,r,rfl,eb⟩
 .have tt:Ts H (upd H a (.dK (putK xs k' v))):=.turn e (λ_ z=>nomatch z) (λ_ _ z=>nomatch z);exact⟨_,.k e (by rw[←r.length];exact hl),tt,g.turn (u:=.bC ao _) tt (.inl ⟨rfl,_,aK,(a0I m7 rv r).imp λ_ _ q=>⟨q.1,q.2.mono tt⟩⟩)⟩
 .have tt:Ts H (upd H a (.dT (putK xs ks v))):=.turn e (λ_ z=>nomatch z) (λ_ _ z=>nomatch z);exact⟨_,.t e eb (by rw[←r.length];exact hl),tt,g.turn (u:=.bC ak _) tt (.inr ⟨rfl,_,aK,(a0I jO rv r).imp λ_ _ q=>⟨q.1,q.2.mono tt⟩⟩)⟩
noncomputable def vM(G:Gp)(a:bw):Option (Bool×List (DK×D)):=match G a with
 |some (.bC t kvs)=>aj (t,kvs)
 |some (.yM _ t kvs)=>aj (t,kvs)
 |_=>bh
set_option tactic.hygienic true in
theorem aeK{K:Fg}{t:Bool}(g:HR K H G)(e:vM G a=aj (t,kvs)) :
  (t=ao/\∃xs:List (Key×V),Rd H a (.dK xs)/\qO K H .inl kvs xs)∨(t=ak/\∃xs:List (List Key×V),Rd H a (.dT xs)/\qO K H .inr kvs xs):=by
 unfold vM at e;split at e
 .rename_i t' kvs' q;cases e;rcases g a _ q with⟨z,xs,e2,tw⟩|⟨z,xs,e2,tw⟩
  .exact .inl ⟨z,xs,.inl e2,tw⟩
  .exact .inr ⟨z,xs,.inl e2,tw⟩
 .rename_i o t' kvs' q;cases e;rcases g a _ q with⟨z,xs,e2,tw⟩|⟨z,xs,e2,tw⟩
  .exact .inl ⟨z,xs,.inr ⟨o,e2⟩,tw⟩
  .exact .inr ⟨z,xs,.inr ⟨o,e2⟩,tw⟩
 .cases e
def a6U(x y:D)(G:Gp)(P:List (DK×D)->DK->Prop):Prop:=match x with
 |.ref a=>(match vM G a,xU y with
  |some (t,kvs),aj k=>pO k=t/\P kvs k
  |_,_=>False)
 |_=>False
set_option tactic.hygienic true in
theorem amJ{K:Fg}(rx:RD K H x vx)(ry:RD K H y vy)(g:HR K H G)(h:a6U x y G P) :
  ∃a kvs k,x=.ref a/\vx=.ref a/\P kvs k/\∀d,aJ kvs k=aj d->∃v,zB H a vy (aj v)/\RD K H d v:=by
 unfold a6U at h;split at h
 .rename_i a;split at h
  .rename_i t kvs k e1 e2;obtain⟨rfl,h⟩:=h;cases rx;refine⟨a,kvs,k,rfl,rfl,h,λd ed=>?_⟩;rcases aeK g e1 with⟨z,xs,e3,r⟩|⟨z,xs,e3,r⟩
   .rcases ac5 ry e2 with⟨k',rfl,rfl⟩|⟨ks,b,rfl,_⟩
    .obtain⟨v,e4,rv⟩:=(val_two m7 (k:=k') r).1 d ed;exact⟨v,.inl ⟨xs,k',e3,rfl,e4.symm⟩,rv⟩
    .cases z
   .rcases ac5 ry e2 with⟨k',rfl,rfl⟩|⟨ks,b,rfl,rfl,eb⟩
    .cases z
    .obtain⟨v,e4,rv⟩:=(val_two jO (k:=ks) r).1 d ed;exact⟨v,.inr ⟨xs,ks,b,e3,rfl,eb,e4.symm⟩,rv⟩
  .exact h.elim
 .exact h.elim
noncomputable def lD:R3:=λx y G R=>a6U x y G λkvs k=>match aJ kvs k with
 |some d=>R d G
 |none=>False
noncomputable def aeL:R3:=λx y G R=>rF y x G λ_ _ kvs k=>R (.bl (aJ kvs k).isSome) G
noncomputable def apM:R3:=λx y G R=>rF y x G λ_ _ kvs k=>R (.bl (!(aJ kvs k).isSome)) G
section
variable{X:Cx}{o:jk}{to ti tv te tf:bV}{pos:Pos}
set_option tactic.hygienic true in
theorem aIG(hu:X.A.units+64<jl)(ho:bY X o to)(hi:bY X i ti)(hs:au4 i):bY X (.Subscript o i pos) (aL lD to ti):=by
 refine PE.imp (au5 (by omega) ho hi hs) λσ H Q h=>?_;obtain⟨ρ,G,R,s,g,t,k⟩:=h;refine⟨ρ,G,_,s,g,t,λvx H1 x G1 t1 rx g1 t'=>?_⟩;refine⟨ρ,G1,_,s.mono t1,g1,t',λvy H2 y G2 t2 ry g2 t''=>?_⟩;obtain⟨a,kvs,kk,rfl,rfl,q,dd⟩:=amJ (rx.mono t2) ry g2 t'';split at q
 .rename_i d e2;obtain⟨v,gg,rv⟩:=dd d e2;exact⟨a,v,rfl,gg,k v H2 d G2 (t1.trans t2) rv g2 q⟩
 .exact q.elim
theorem aIH(hu:X.A.units+64<jl):jY X (jd .In) aeL:=vG λpins s σ H x y vx vy u v G R Q I rx ry ru rv g q k=>by
 obtain⟨a,kvs,kk,rfl,rfl,e1,_,q,dd⟩:=rG ry rx g q;obtain⟨o,gg,eo,_⟩:=dd.any;obtain rfl:v=aq.ref a:=rv;exact aLR (by omega) I gg ru λs' I'=>⟨.bl o.isSome,H,I',rfl,k _ H (.bl _) G (.refl H) (.bl _) g (by rw[eo];exact q)⟩
theorem aCB(hu:X.A.units+64<jl):jY X (jd .NotIn) apM:=vG λpins s σ H x y vx vy u v G R Q I rx ry ru rv g q k=>by
 obtain⟨a,kvs,kk,rfl,rfl,e1,_,q,dd⟩:=rG ry rx g q;obtain⟨o,gg,eo,_⟩:=dd.any;obtain rfl:v=aq.ref a:=rv;exact au3 (by omega) I gg ru λs' I'=>⟨.bl (!o.isSome),H,I',rfl,k _ H (.bl _) G (.refl H) (.bl _) g (by rw[eo];exact q)⟩
def ajX(x y v:D)(F:cP)(ρ:aO)(G:Gp):Prop:=rF x y G λa t kvs k=>kvs.length<cu/\F.nx ρ (aH G a (.bC t (bQ kvs k v)))
noncomputable def zJ(to ti tv:bV):bK:=λF ρ G=>tv ρ G λv G1=>to ρ G1 λx G2=>ti ρ G2 λy G3=>ajX x y v F ρ G3
theorem aCC(hu:X.A.units+64<jl)(ho:bY X o to)(hi:bY X i ti)(hv:bY X value tv)(hs:a0z value (aj (.Subscript o i pos')) pos.line X.env=pure ao):PS3 X (.Assign [.Subscript o i pos'] value pos) (zJ to ti tv):=by
 refine PS.imp (au6 (by omega) ho hi hv hs) λF σ H h=>?_;obtain⟨ρ,G,E,s,g,t,u⟩:=h;refine⟨ρ,G,_,s,g,t,λv H1 d G1 t1 rv g1 t'=>?_⟩;refine⟨ρ,G1,_,s.mono t1,g1,t',λvx H2 x G2 t2 rx g2 t''=>?_⟩;refine⟨ρ,G2,_,s.mono (t1.trans t2),g2,t'',λvy H3 y G3 t3 ry g3 t4=>?_⟩;obtain⟨a,kvs,kk,rfl,rfl,e1,_,⟨hl,q⟩,dd⟩:=rG (rx.mono t3) ry g3 t4;obtain⟨H4,pp,tt,g4⟩:=dd.put g3 (rv.mono (t2.trans t3)) hl;exact⟨a,H4,rfl,pp,u.nx ρ _ σ _ (s.mono (((t1.trans t2).trans t3).trans tt)) g4 q⟩
def qP(x:D)(G:Gp):Prop:=match x with
 |.ref a=>(match G a with
  |some (.bC _ _)=>True
  |_=>False)
 |_=>False
set_option tactic.hygienic true in
theorem aaA{K:Fg}(rx:RD K H x vx)(g:HR K H G)(h:qP x G):∃a,x=.ref a/\vx=.ref a/\IsD H a:=by
 unfold qP at h;split at h
 .rename_i a;split at h
  .rename_i t kvs e;cases rx;rcases g a _ e with⟨_,xs,e2,_⟩|⟨_,xs,e2,_⟩
   .exact⟨a,rfl,rfl,.inl ⟨xs,.inl e2⟩⟩
   .exact⟨a,rfl,rfl,.inr ⟨xs,.inl e2⟩⟩
  .exact h.elim
 .exact h.elim
noncomputable def pP(to te tf:bV):bV:=λρ G R=>to ρ G λx G1=>qP x G1/\te ρ G1 λy G2=>tf ρ G2 λz G3=>rF x y G3 λ_ _ kvs k=>R ((aJ kvs k).getD z) G3
theorem avD(hu:X.A.units+64<jl)(ho:bY X o to)(he:bY X e te)(hf:bY X f tf)(m:M2 X o "get" apos e f cpos):bY X (.Call (.Attribute o "get" apos) [e,f] [] cpos) (pP to te tf):=by
 refine PE.imp (ao9 (by omega) ho he hf m) λσ H Q h=>?_;obtain⟨ρ,G,R,s,g,t,k⟩:=h;refine⟨ρ,G,_,s,g,t,λvx H1 x G1 t1 rx g1 t'=>?_⟩;obtain⟨isd,t'⟩:=t';obtain⟨a,rfl,rfl,ia⟩:=aaA rx g1 isd;refine⟨a,rfl,ia,?_⟩;refine⟨ρ,G1,_,s.mono t1,g1,t',λvy H2 y G2 t2 ry g2 t''=>?_⟩;refine⟨ρ,G2,_,s.mono (t1.trans t2),g2,t'',λvz H3 z G3 t3 rz g3 t4=>?_⟩;obtain⟨a',kvs,kk,e,_,e1,_,q,dd⟩:=rG (rx.mono (t2.trans t3)) (ry.mono t3) g3 t4;cases e;obtain⟨o,gg,eo,hd⟩:=dd.any;exact⟨o,gg,k _ H3 _ G3 ((t1.trans t2).trans t3) (hd z vz rz) g3 q⟩
end
end
variable{o:jk}
section
variable{p:bw×aq}
section
variable{prog:jo}{w:jf}{K:Type}[DecidableEq K]{knd:HeapKind prog w K}{A:jr}{s:dh}{a:bw}{k:K}{xs:List (K×bw×aq)}
theorem aCD{xs:List (K×bw×aq)}{o:Obj}{es ep}(hkey:knd.is s.heap k a)(ho:s.heap.get? d=aj o)(hc:o.ExactDict)(hd:o.data=.dict es ep)(he:es.toList=xs.map (entryOfKey knd))(his:∀x∈xs,knd.is s.heap x.1 x.2.1)(hn:(xs.map (·.1)).Nodup)(hno:∀(j:Nat)(p:bw×aq),xs[j]?≠aj (k,p)) :
  (s.heap.update d (Obj.mapDictKeys (·.push ⟨knd.hash k,.ref a,v⟩))).DictOfH knd d (a0i xs k a v):=by
 have nk:k∉xs.map (·.1):=not_mem_keys_of_get hno;refine⟨_,_,ep+1,a1j _ ho (Obj.isFreed_of_dict (Obj.data_mapDictKeys hd _)),hc.mapDictKeys _,Obj.data_mapDictKeys hd _,?_,?_,?_⟩<;>rw[storedH_new (atKey_none_of_get hno)]
 .simp[he,entryOfKey]
 .intro x hx;rcases ug.mp hx with hx|hx
  .exact knd.keeps (his x hx) ho hd (jz.update ..)
  .rw[qe]at hx;subst hx;exact knd.keeps hkey ho hd (jz.update ..)
 .rw[mz,uq];refine⟨hn,by simp,λx hx y hy e=>?_⟩;rw[List.map_singleton,qe]at hy;exact nk (by rw[←show y=k from hy,←e];exact hx)
theorem aCE(hu:knd.room A)(hkey:knd.is s.heap k a)(hm:s.heap.DictOfH knd d xs)(hsz:xs.length<=cu)
  (h1:∀p,atKey xs k=aj p->Q p.2 {s with toks:=s.toks+knd.draws k})
  (h2:atKey xs k=bh->∀h',h'.DictOfH knd d (a0i xs k a v)->jz d s.heap h'->Q v {s with heap:=h',toks:=s.toks+knd.draws k}):dg (fj prog w) A (dictSetDefault d (.ref a) v) Q E s:=by
 obtain⟨o,es,ep,ho,hc,hd,he,his,hn⟩:=hm;unfold dictSetDefault;refine qb (au (knd.pyHash hu hkey (au (wpAny_dictFind_heap (s:={s with toks:=s.toks+knd.draws k}) hu hkey ho hd he his hn ?_ ?_))))
 .intro hno;refine au (zc (au (wpAny_updateDictKeys (s:={s with toks:=s.toks+knd.draws k}) ho hd (cj (h2 (atKey_none_of_get hno) _ (aCD hkey ho hc hd he his hn hno) (jz.update ..))) (hz:=by have e:=size_of_entries he;omega))))
 .intro j p hj;refine au (vq (s:={s with toks:=s.toks+knd.draws k}) ho hd ?_);rw[entry_at he j,hj];exact au (zc (cj (h1 p (atKey_of_get hn hj))))
theorem a97(hu:knd.room A.in1)(hkey:knd.is s.heap k a)(hs:(d==nj)=ao)(hm:s.heap.DictOfH knd d xs)(hsz:xs.length<=cu)
  (h1:∀p,atKey xs k=aj p->Q p.2 {s with toks:=s.toks+knd.draws k})
  (h2:atKey xs k=bh->∀h',h'.DictOfH knd d (a0i xs k a v)->jz d s.heap h'->Q v {s with heap:=h',toks:=s.toks+knd.draws k}):dg (fj prog w) A (call (.builtin "dict.setdefault") [.ref d,.ref a,v]) Q E s:=by
 refine call_meetsIn (S:=λA' R s'=>knd.room A'.in1/\s'=s/\(∀p,atKey xs k=aj p->R (.ok (.ret p.2)) {s with toks:=s.toks+knd.draws k})/\(atKey xs k=bh->∀h',h'.DictOfH knd d (a0i xs k a v)->jz d s.heap h'->R (.ok (.ret v)) {s with heap:=h',toks:=s.toks+knd.draws k})) PySem.F.slot_dict_setdefault hm.typeIs PySem.F.entry_dict_setdefault (PySem.F.args_dict_setdefault_3 _ _ _) (.of_wp ?_) ⟨hu,rfl,h1,h2⟩;rintro A' R s' ⟨hu',e,g1,g2⟩;subst e;unfold Builtin.«dict.setdefault»;refine au ?_;unfold Builtin.Dict.keyAndDefault;refine au (wpAny_notOrdered_dict hm.typeIs ?_);show dg _ _ (pure (d,aq.ref a,aj v)) _ _ _;refine cj ?_;show dg _ _ (if(d==nj)=ak then _ else(dictSetDefault d (.ref a) v >>= _)) _ _ _;rw[if_neg (by rw[hs];exact oh)];exact au (aCE hu' hkey hm hsz (λp hp=>cj ⟨p.2,rfl,g1 p hp⟩) λhn h' hm' hs'=>cj ⟨v,rfl,g2 hn h' hm' hs'⟩)
noncomputable def mF(xs:List (K×bw×aq))(k:K):List (K×bw×aq):=xs.filter λx=>decide (x.1≠k)
theorem aeM{xs:List (K×bw×aq)}(hn:(xs.map (·.1)).Nodup)(hj:xs[j]?=aj (k,p)):mF xs k=xs.eraseIdx j:=by
 induction xs generalizing j with
 |nil=>simp at hj
 |cons x r ih =>
  rw[iy,qy]at hn;cases j with
  |zero =>
   simp at hj;subst hj
   have:∀y∈r,decide (y.1≠k)=ak:=λy hy=>by
    simp only[decide_eq_true_eq];intro e;exact hn.1 (dw.mpr ⟨y,hy,e⟩)
   rw[mF,yw,if_neg (by simp),List.filter_eq_self.mpr this];rfl
  |succ j =>
   have hj':r[j]?=aj (k,p):=by simpa using hj
   have ne:x.1≠k:=λe=>hn.1 (by rw[e];exact dw.mpr ⟨(k,p),jx hj',rfl⟩);have:=ih hn.2 hj';simp[mF,yw,ne]at this ⊢;exact this
theorem avE(hu:knd.room A)(hkey:knd.is s.heap k a)(hm:s.heap.DictOfH knd d xs)(hsz:xs.length<=cu)(hp:atKey xs k=aj p)
  (h:∀h' e,e.key=.ref p.1->e.val=p.2->h'.DictOfH knd d (mF xs k)->jz d s.heap h'->Q (aj e) {s with heap:=h',toks:=s.toks+knd.draws k}):dg (fj prog w) A (Builtin.Dict.takeOut d (.ref a)) Q E s:=by
 obtain⟨o,es,ep,ho,hc,hd,he,his,hn⟩:=hm;unfold Builtin.Dict.takeOut;refine qb (au (knd.pyHash hu hkey (au (wpAny_dictFind_heap (s:={s with toks:=s.toks+knd.draws k}) hu hkey ho hd he his hn ?_ ?_))))
 .intro hno;rw[atKey_none_of_get hno]at hp;cases hp
 .intro j q hj;rw[atKey_of_get hn hj]at hp;cases hp;refine au (vq (s:={s with toks:=s.toks+knd.draws k}) ho hd ?_);rw[entry_at he j,hj];refine au (wpAny_updateDictKeys (s:={s with toks:=s.toks+knd.draws k}) ho hd (cj (h _ _ rfl rfl ⟨_,_,ep+1,a1j _ ho (Obj.isFreed_of_dict (Obj.data_mapDictKeys hd _)),hc.mapDictKeys _,Obj.data_mapDictKeys hd _,?_,?_,?_⟩ (jz.update ..))) (hz:=by have e:=size_of_entries he;omega) (hf:=?_))
  .rw[aeM hn hj];have hjl:j<es.size:=by rw[size_of_entries he];exact(ji.mp hj).1
   have em:∀(l:List (K×bw×aq))(j:Nat),(l.map (entryOfKey knd)).eraseIdx j=(l.eraseIdx j).map (entryOfKey knd):=by
    intro l
    induction l with
    |nil=>intro j;rfl
    |cons x r ih=>intro j;cases j with
     |zero=>rfl
     |succ j=>simp[ih]
   simp[Array.eraseIdxIfInBounds,hjl,he,em]
  .intro x hx;exact knd.keeps (his x (qu.mp hx).1) ho hd (jz.update ..)
  .exact(a2u.map _).nodup hn
  .show(es.eraseIdxIfInBounds j).size<=es.size+1;unfold Array.eraseIdxIfInBounds;split<;>simp<;>omega
theorem aCF(hu:knd.room A.in1)(hkey:knd.is s.heap k a)(hm:s.heap.DictOfH knd d xs)(hsz:xs.length<=cu)(hp:atKey xs k=aj p)
  (h:∀h',h'.DictOfH knd d (mF xs k)->jz d s.heap h'->Q p.2 {s with heap:=h',toks:=s.toks+knd.draws k}):dg (fj prog w) A (call (.builtin "dict.pop") [.ref d,.ref a]) Q E s:=by
 refine call_meetsIn (S:=λA' R s'=>knd.room A'.in1/\s'=s/\∀h',h'.DictOfH knd d (mF xs k)->jz d s.heap h'->R (.ok (.ret p.2)) {s with heap:=h',toks:=s.toks+knd.draws k}) PySem.F.slot_dict_pop hm.typeIs PySem.F.entry_dict_pop (PySem.F.args_dict_pop_2 _ _) (.of_wp ?_) ⟨hu,rfl,h⟩;rintro A' R s' ⟨hu',e,g⟩;subst e;have hne:xs≠[]:=λe=>by subst e;cases hp
 obtain⟨o,es,ep,ho,hc,hd,he,his,hn⟩:=id hm;unfold Builtin.«dict.pop»;refine au ?_;unfold Builtin.Dict.keyAndDefault;refine au (wpAny_notOrdered_dict hm.typeIs ?_);show dg _ _ (pure (d,aq.ref a,bh)) _ _ _;refine cj ?_
 have e0:es.isEmpty=ao:=by
  have:=size_of_entries he;rw[Array.isEmpty_eq_false_iff];intro z;subst z;exact hne (List.length_eq_zero_iff.mp this.symm)
 show dg _ _ (dictEntries d >>= _) _ _ _;refine au (vq ho hd ?_);rw[e0];refine au (cj ?_);show dg _ _ (Builtin.Dict.takeOut d (aq.ref a) >>= _) _ _ _;refine au (avE hu' hkey hm hsz hp λh' e e1 e2 dd hs=>?_);refine au (wpAny_letGo (cj ⟨_,rfl,?_⟩));rw[e2];exact g h' dd hs
end
theorem KT.drop(r:KT H kvs xs)(k:List Key):KT H (uD kvs k) (mF xs k):=by
 unfold uD mF
 induction r with
 |nil=>exact .nil
 |@cons p q ps qs h t ih =>
  rw[yw,yw];by_cases e:p.1=k
  .rw[if_neg (by simp[e]),if_neg (by simp[h.1.symm.trans e])];exact ih
  .rw[if_pos (by simp[e]),if_pos (by simp;exact λz=>e (h.1.trans z))];exact .cons h ih
theorem a0J{κ:Type}[DecidableEq κ]{K:Fg}{f:κ->DK}(hf:∀a b,f a=f b->a=b){k:κ}:∀{kvs:List (DK×D)}{xs:List (κ×V)},qO K H f kvs xs->qO K H f (bJ kvs (f k)) (uD xs k)
 |_,_,.nil=>.nil
 |p::kvs,q::xs,.cons h r=>by
  unfold bJ uD;rw[yw,yw];by_cases c:q.1=k
  .rw[if_neg (by simp[show p.1=f k by rw[h.1,c]]),if_neg (by simp[c])];exact a0J hf r
  .rw[if_pos (by simp;exact λz=>c (hf _ _ (h.1.symm.trans z))),if_pos (by simp[c])];exact .cons h (a0J hf r)
noncomputable def ahM(r:RM3)(to:bV)(t:sS):bV:=λρ G R=>to ρ G λx G1=>qP x G1/\t ρ G1 λxs G2=>r x xs G2 R
section
variable{X:Cx}
theorem aII{t:sS}{apos cpos:Pos}{id:String}{r3:RM3}(slot:Slot "dict" name id)(hty:typeOf (.builtin id)=pure (.type "method_descriptor"))(hm:a6L X id r3)(ho:bY X o to)(ha:PA3 X (e::es) t)
  (hbase:uh o name X.env (eval o X.env)=eval o X.env)
  (hfew:((rm cpos (jg (e::es) X.env)).all (λx=>!x.1)&&(backToKw cpos (a0b [] X.env)).all (λx=>x.1.isSome)
   &&decide ((e::es).length+([]:List a0j).length+(if([]:List a0j).isEmpty then 0 else 1)<30))=ak)
  (hline:(apos.endLine==cpos.line)=ak)(hs:jg (e::es) X.env=(ao,eval e X.env)::jg es X.env)(hplain:(rm cpos (jg es X.env)).any (·.1)=ao) :
  bY X (.Call (.Attribute o name apos) (e::es) [] cpos) (ahM r3 to t):=by
 intro pins s σ H Q I h;obtain⟨ρ,G,R,sr,g,q,kk⟩:=h;refine wpAny_Call_method_late hbase hfew hline rfl (cR (ho pins s σ H (λvx H1=>Ts H H1/\∃x G1,RD X.K H1 x vx/\HR X.K H1 G1/\qP x G1/\t ρ G1 λxs G2=>r3 x xs G2 R) I ⟨ρ,G,_,sr,g,q,λv H1 x G1 t1 r1 g1 q1=>⟨t1,x,G1,r1,g1,q1⟩⟩) ?_);rintro v s1 ⟨vx,H1,I1,r1,t1,x,G1,rx,g1,ty,q1⟩;obtain⟨a,rfl,rfl,ia⟩:=aaA rx g1 ty;obtain rfl:v=aq.ref a:=r1;obtain⟨h1,h2,_⟩:=a2A I1 ia;refine⟨"dict",id,PySem.F.plainAttrs_dict,slot,hty,h1,h2,?_⟩;have hA:=ha cpos pins s1 σ H1 (λvs H2=>Ts H1 H2/\∃xs G2,bW X.K H2 xs vs/\HR X.K H2 G2/\r3 (.ref a) xs G2 R) I1 ⟨ρ,G1,_,sr.mono t1,g1,q1,λvs H2 xs G2 t2 r2 g2 q2=>⟨t2,xs,G2,r2,g2,q2⟩⟩;rw[hs]at hA ⊢;refine Calls.callWith_builtin (by show(ao||(rm cpos (jg es X.env)).any (·.1))=ao;rw[hplain]<;>rfl) (Calls.evalArgs_plain ?_);exact cR hA (by rintro us s2 ⟨vs,H2,I2,r2,t2,xs,G2,rs,g2,q2⟩;exact hm pins s2 σ H2 (.ref a) xs (.ref a) vs (.ref a) us G2 R Q I2 (.ref a) rs rfl r2 g2 q2 λv H' d G' t3=>kk v H' d G' ((t1.trans t2).trans t3))
noncomputable def a3X:RM3:=λx xs G R=>match xs with
 |[y,z]=>rF x y G λa t kvs k=>t=ak/\kvs.length<cu/\(match aJ kvs k with
  |some d=>R d G
  |none=>R z (aH G a (.bC t (bQ kvs k z))))
 |_=>False
set_option tactic.hygienic true in
theorem aIJ(hu:X.A.units+64<jl):a6L X "dict.setdefault" a3X:=by
 intro pins s σ H x xs vx vs u us G R Q I rx rs ru rv g q k;unfold a3X at q;split at q
 case h_2=>exact q.elim
 case h_1 y z =>
  cases rs with
  |cons ry rs =>
  cases rs with
  |@cons _ vz _ _ rz rs =>
  cases rs;cases rv with
  |cons rvy rv =>
  cases rv with
  |cons rvz rv =>
  cases rv;obtain⟨a,kvs,kk,rfl,rfl,e1,_,⟨ht,hl,q⟩,dd⟩:=rG rx ry g q;obtain rfl:u=aq.ref a:=ru;rcases dd with⟨k',ys,rfl,_⟩|⟨ks,ys,b,rfl,e,r,rfl,eb⟩
  .cases ht
  .cases rvy;obtain⟨z1,hd,ws,rel,dc⟩:=adO I.hok e;have hw:=val_two jO (k:=ks) r;have hv:=rel.val ks;have lw:ws.length<=cu:=by rw[←Paired.length rel];exact z1
   refine a97 (yd (by omega)) (sY I.hok eb) hd dc lw (λp hp=>?_) λhn h' dc' hs=>?_
   .rw[hp]at hv;cases e2:aJ kvs (.inr ks)with
    |none=>rw[hw.2 e2]at hv;exact(show False from hv).elim
    |some d =>
     rw[e2]at q;obtain⟨v,e3,rd⟩:=hw.1 d e2;rw[e3]at hv;exact⟨v,H,I.tok _,hv,k v H d G (.refl H) rd g q⟩
   .rw[hn]at hv;cases e2:aJ kvs (.inr ks)with
    |some d =>
     obtain⟨v,e3,rd⟩:=hw.1 d e2;rw[e3]at hv;exact(show False from hv).elim
    |none =>
     rw[e2]at q;have tt:Ts H (upd H a (.dT (putK ys ks vz))):=.turn e (λ_ z=>nomatch z) (λ_ _ z=>nomatch z);obtain⟨q0,es,ep,hq,g2,g3,g4,_,g5⟩:=dc';have hl2:∀v:V,(putK ys ks v).length<=cu:=λv=>by have:=v7 ys ks v;rw[←r.length]at this;omega
     refine⟨_,_,sZ (t':=_) (ob:=.dT (putK ys ks vz)) I (by rw[e];exact True.intro) hs ⟨q0,hq⟩ ⟨hl2 _,hd,_,(rel.put ks eb rvz).keeps λc zs ec=>?_,q0,es,ep,hq,g2,g3,g4,g5⟩,rvz,k _ _ z _ tt (rz.mono tt) (g.turn (u:=.bC ak _) tt (.inr ⟨rfl,_,aK,(a0I jO rz r).imp λ_ _ q=>⟨q.1,q.2.mono tt⟩⟩)) q⟩;rw[aU (anQ ec e (λz=>nomatch z))];exact ec
noncomputable def a2K:RM3:=λx xs G R=>match xs with
 |[y]=>rF x y G λa t kvs k=>(match aJ kvs k with
  |some d=>R d (aH G a (.bC t (bJ kvs k)))
  |none=>False)
 |_=>False
set_option tactic.hygienic true in
theorem aCG(hu:X.A.units+64<jl):a6L X "dict.pop" a2K:=by
 intro pins s σ H x xs vx vs u us G R Q I rx rs ru rv g q k
 match xs,rs,q with
 |[],_,q=>exact q.elim
 |_::_::_,_,q=>exact q.elim
 |[y],.cons ry .nil,q =>
  cases rv with
  |cons rvy rv =>
  cases rv;obtain⟨a,kvs,kk,rfl,rfl,e1,_,q,dd⟩:=rG rx ry g q;obtain rfl:u=aq.ref a:=ru;split at q
  .rename_i d e2;rcases dd with⟨k',ys,rfl,e,r,rfl⟩|⟨ks,ys,b,rfl,e,r,rfl,eb⟩
   .obtain⟨v,e3,rd⟩:=(val_two m7 (k:=k') r).1 d e2;have tt:Ts H (upd H a (.dK (uD ys k'))):=.turn e (λ_ z=>nomatch z) (λ_ _ z=>nomatch z);exact aGL I e rvy e3 (.inl rfl) λw' s' I' rw'=>⟨v,_,I',rw',k v _ d _ tt (rd.mono tt) (g.turn (u:=.bC ao _) tt (.inl ⟨rfl,_,aK,(a0J m7 r).imp λ_ _ q=>⟨q.1,q.2.mono tt⟩⟩)) q⟩
   .obtain⟨v,e3,rd⟩:=(val_two jO (k:=ks) r).1 d e2;cases rvy;obtain⟨z1,hd,ws,rel,dc⟩:=adO I.hok e;have hv:=rel.val ks;rw[e3]at hv;have lw:ws.length<=cu:=by rw[←Paired.length rel];exact z1
    cases hp:atKey ws ks with
    |none=>rw[hp]at hv;exact(show False from hv).elim
    |some p =>
     rw[hp]at hv;have tt:Ts H (upd H a (.dT (uD ys ks))):=.turn e (λ_ z=>nomatch z) (λ_ _ z=>nomatch z);refine aCF (yd (by omega)) (sY I.hok eb) dc lw hp λh' dc' hs=>?_;obtain⟨q0,es,ep,hq,g2,g3,g4,_,g5⟩:=dc';refine⟨v,_,sZ (t':=_) (ob:=.dT (uD ys ks)) I (by rw[e];exact True.intro) hs ⟨q0,hq⟩ ⟨qj (a69 ys ks) z1,hd,_,(rel.drop ks).keeps λc zs ec=>?_,q0,es,ep,hq,g2,g3,g4,g5⟩,hv,k v _ d _ tt (rd.mono tt) (g.turn (u:=.bC ak _) tt (.inr ⟨rfl,_,aK,(a0J jO r).imp λ_ _ q=>⟨q.1,q.2.mono tt⟩⟩)) q⟩;rw[aU (anQ ec e (λz=>nomatch z))];exact ec
  .exact q.elim
noncomputable def a2L:List D->Gp->fZ->Prop:=λxs G R=>match xs with
 |[.ref a]=>(match G a with
  |some (.bC ao kvs)=>R (.int kvs.length) G
  |_=>False)
 |_=>False
set_option tactic.hygienic true in
theorem aCH:d8 X (.builtin "len") a2L:=by
 intro pins s σ H xs vs us G R Q I rx rv g q k;unfold a2L at q;split at q
 .rename_i a;split at q
  .rename_i kvs e1;cases rx with
   |cons r1 rr =>
   cases rr;cases r1;cases rv with
   |cons rv rr =>
   cases rr;cases rv;rcases g a _ e1 with⟨_,ys,e,r⟩|⟨z,_⟩
   .refine aGM I (.inl e) λt s' I'=>⟨.int ys.length,H,I',⟨t,rfl⟩,k _ H (.int kvs.length) G (.refl H) (by rw[r.length];exact .int _) g q⟩
   .cases z
  .exact q.elim
 .exact q.elim
end
end
variable{q:Array Nat}{B:Int}
section
open PySem.W
variable{p:Array Nat}{i:Nat}
section
variable{cmp:Nat->Nat->(Bool->dh->Prop)->dh->Prop}{I:dh->Prop}{kf:Nat->Int}
noncomputable def ky(kf:Nat->Int)(p:Array Nat)(i:Nat):Int:=kf (p.getD i 0)
def Up(kf:Nat->Int)(p:Array Nat)(k:Nat):Prop:=∀i j,i<=j->j<k->ky kf p i<=ky kf p j
def Down(kf:Nat->Int)(p:Array Nat)(k:Nat):Prop:=∀i j,i<j->j<k->ky kf p j<ky kf p i
def Asks(cmp:Nat->Nat->(Bool->dh->Prop)->dh->Prop)(I:dh->Prop)(kf:Nat->Int)(n:Nat):Prop:=∀i j C s,i<n->j<n->I s->(∀s',I s'->C (decide (kf i<kf j)) s')->cmp i j C s
structure Pm(n:Nat)(p:Array Nat):Prop where
 size:p.size=n
 perm:p.toList.Perm (jw n)
theorem Pm.lt(h:Pm n p)(hi:i<n):p.getD i 0<n:=by
 have hs:i<p.size:=by rw[h.size];exact hi
 have e:p.getD i 0=p[i]:=by simp[Array.getD,hs]
 rw[e];exact xg.mp (h.perm.mem_iff.mp (by simp))
theorem Pm.inj(h:Pm n p)(hi:i<n)(hj:j<n)(e:p.getD i 0=p.getD j 0):i=j:=by
 have hs:i<p.size:=by rw[h.size];exact hi
 have ht:j<p.size:=by rw[h.size];exact hj
 have nd:p.toList.Nodup:=(h.perm.nodup_iff).mpr List.nodup_range;have e1:p.getD i 0=p[i]:=by simp[Array.getD,hs]
 have e2:p.getD j 0=p[j]:=by simp[Array.getD,ht]
 rw[e1,e2]at e;have key:=yc.mp nd;have hs':i<p.toList.length:=by simpa using hs
 have ht':j<p.toList.length:=by simpa using ht
 rcases zm i j with c|c|c
 .exact absurd (by simpa using e) (key i j hs' ht' c)
 .exact c
 .exact absurd (by simpa using e.symm) (key j i ht' hs' c)
theorem a5L(h:p[i]?=q[j]?):p.getD i 0=q.getD j 0:=by
 rw[Array.getD_eq_getD_getElem?,Array.getD_eq_getD_getElem?,h]
theorem apO{k:Nat}(hn:n<=p.size)(hk:k<n):ky kf (kas_rev p 0 n) k=ky kf p (n - 1 - k):=by
 unfold ky kas_rev;have e:=getElem?_mirror_all (xs:=p) (i:=0) (j:=n) hn k;rw[if_pos ⟨vh _,hk⟩,Nat.zero_add]at e;rw[a5L e]
theorem Pm.rev{m:Nat}(h:Pm n p):Pm n (kas_rev p 0 m):=⟨by rw[kas_rev_size];exact h.size,((mirror_perm p 0 m _).toList).trans h.perm⟩
theorem Down.up(hn:n<=p.size)(h:Down kf p n):Up kf (kas_rev p 0 n) n:=λi j hij hj=>by
 rw[apO hn (by omega),apO hn hj];by_cases c:i=j
 .subst c;exact a1f _
 .exact Int.le_of_lt (h (n - 1 - j) (n - 1 - i) (by omega) (by omega))
theorem ahN{n:Nat}(hc:Asks cmp I kf n){p:Array Nat}(P:Pm n p):∀(f a:Nat)(s:dh),1<=a->a+f<=n->Up kf p a->I s->(∀m s',a<=m->m<=a+f->Up kf p m->(m<a+f->ky kf p m<ky kf p (m - 1))->I s'->Q m s')->(kas_asc p f a).kasWp cmp Q s
 |0,a,s,h1,h2,u,i,h=>h a s (dz _) (dz _) u (λz=>absurd z (ur _)) i
 |f+1,a,s,h1,h2,u,i,h=>by
  show cmp (p.getD a 0) (p.getD (a - 1) 0) _ s;refine hc _ _ _ s (P.lt (by omega)) (P.lt (by omega)) i λs' i'=>?_;by_cases c:kf (p.getD a 0)<kf (p.getD (a - 1) 0)
  .rw[decide_eq_true c];dsimp only;rw[if_pos rfl];exact h a s' (dz _) (by omega) u (λ_=>c) i'
  .rw[decide_eq_false c];dsimp only;rw[if_neg (by decide)];refine ahN hc P f (a+1) s' (by omega) (by omega) (λx y hxy hy=>?_) i' λm s2 l1 l2 u2 l3 i2=>h m s2 (by omega) (by omega) u2 (λz=>l3 (by omega)) i2;by_cases cy:y<a
   .exact u x y hxy cy
   .have ey:y=a:=by omega
    subst ey;by_cases cx:x=y
    .subst cx;exact a1f _
    .have:=u x (y - 1) (by omega) (by omega);have c':ky kf p (y - 1)<=ky kf p y:=by unfold ky;omega
     omega
theorem ajY{n:Nat}(hc:Asks cmp I kf n)(hd:∀i j,i<n->j<n->kf i=kf j->i=j){p:Array Nat}(P:Pm n p):∀(f a:Nat)(s:dh),2<=a->a+f<=n->Down kf p a->I s->(∀m s',a<=m->m<=a+f->Down kf p m->I s'->Q (p,m,0) s')->(kas_desc f p a 0).kasWp cmp Q s
 |0,a,s,h1,h2,u,i,h=>h a s (dz _) (dz _) u i
 |f+1,a,s,h1,h2,u,i,h=>by
  show cmp (p.getD a 0) (p.getD (a - 1) 0) _ s;refine hc _ _ _ s (P.lt (by omega)) (P.lt (by omega)) i λs' i'=>?_;by_cases c:kf (p.getD a 0)<kf (p.getD (a - 1) 0)
  .rw[decide_eq_true c];dsimp only;rw[if_pos rfl,if_neg (by omega)];refine ajY hc hd P f (a+1) s' (by omega) (by omega) (λx y hxy hy=>?_) i' λm s2 l1 l2 u2 i2=>h m s2 (by omega) (by omega) u2 i2;by_cases cy:y<a
   .exact u x y hxy cy
   .have ey:y=a:=by omega
    subst ey;have c':ky kf p y<ky kf p (y - 1):=c;by_cases cx:x=y - 1
    .subst cx;exact c'
    .have:=u x (y - 1) (by omega) (by omega);omega
  .rw[decide_eq_false c];dsimp only;rw[if_neg (by decide)];show cmp (p.getD (a - 1) 0) (p.getD a 0) _ s';refine hc _ _ _ s' (P.lt (by omega)) (P.lt (by omega)) i' λs2 i2=>?_
   have ne:kf (p.getD a 0)≠kf (p.getD (a - 1) 0):=λz=>by
    have:=P.inj (i:=a) (j:=a - 1) (by omega) (by omega) (hd _ _ (P.lt (by omega)) (P.lt (by omega)) z);omega
   rw[decide_eq_true (show kf (p.getD (a - 1) 0)<kf (p.getD a 0) by omega)];dsimp only;rw[if_pos rfl];exact h a s2 (dz _) (by omega) u i2
theorem apP(hc:Asks cmp I kf n)(hd:∀i j,i<n->j<n->kf i=kf j->i=j)(h2:2<=n)(P:Pm n p)(i:I s)(h:∀m q s',1<=m->m<=n->Pm n q->Up kf q m->I s'->Q (m,q) s'):(kas_count n p).kasWp cmp Q s:=by
 unfold kas_count;rw[KasT.kasWp_bind];refine ahN hc P (n - 1) 1 s (dz _) (by omega) (λx y hxy hy=>by have:x=y:=(by omega);subst this;exact a1f _) i λm s' l1 l2 u l3 i'=>?_;by_cases c:m=n
 .subst c;rw[if_pos (by simp)];exact h m p s' l1 (by omega) P u i'
 .rw[if_neg (by simpa using c)];by_cases c1:m>1
  .rw[if_pos c1];show cmp (p.getD 0 0) (p.getD (m - 1) 0) _ s';refine hc _ _ _ s' (P.lt (by omega)) (P.lt (by omega)) i' λs2 i2=>?_
   have ne:kf (p.getD 0 0)≠kf (p.getD (m - 1) 0):=λz=>by
    have:=P.inj (i:=0) (j:=m - 1) (by omega) (by omega) (hd _ _ (P.lt (by omega)) (P.lt (by omega)) z);omega
   have le:ky kf p 0<=ky kf p (m - 1):=u 0 (m - 1) (by omega) (by omega);unfold ky at le;rw[decide_eq_true (show kf (p.getD 0 0)<kf (p.getD (m - 1) 0) by omega)];dsimp only;rw[if_pos rfl];exact h m p s2 l1 (by omega) P u i2
  .rw[if_neg c1];have e1:m=1:=by omega
   subst e1;unfold kas_descPart;rw[KasT.kasWp_bind];refine ajY hc hd P (n - (1+1)) (1+1) s' (by omega) (by omega) (λx y hxy hy=>?_) i' λm s2 k1 k2 dn i2=>?_
   .have ex:x=0:=by omega
    have ey:y=1:=by omega
    subst ex;subst ey;exact l3 (by omega)
   .dsimp only;rw[if_neg (by omega)];unfold kas_tail3;rw[KasT.kasWp_bind];refine ahN hc (P.rev (m:=m)) (n - m) m s2 (by omega) (by omega) (dn.up (by rw[P.size];omega)) i2 λk s3 q1 q2 u3 _ i3=>h k _ s3 (by omega) (by omega) P.rev u3 i3
theorem a6V{n:Nat}(hc:Asks cmp I kf n){p:Array Nat}(P:Pm n p){k:Nat}(hk:k<n)(u:Up kf p k):∀(f l r:Nat)(s:dh),l<=r->r<=k->r - l<=f->(∀x,x<l->ky kf p x<=ky kf p k)->(∀x,r<=x->x<k->ky kf p k<ky kf p x)->I s ->
   (∀m s',m<=k->(∀x,x<m->ky kf p x<=ky kf p k)->(∀x,m<=x->x<k->ky kf p k<ky kf p x)->I s'->Q m s')->(kas_place p k f l r).kasWp cmp Q s
 |0,l,r,s,h1,h2,h3,a,b,i,h=>h l s (by omega) a (λx hx=>b x (by omega)) i
 |f+1,l,r,s,h1,h2,h3,a,b,i,h=>by
  unfold kas_place;by_cases c0:l≥r
  .rw[if_pos c0];exact h l s (by omega) a (λx hx=>b x (by omega)) i
  .rw[if_neg c0];show cmp (p.getD k 0) (p.getD ((l+r) / 2) 0) _ s;refine hc _ _ _ s (P.lt (by omega)) (P.lt (by omega)) i λs' i'=>?_;by_cases c:kf (p.getD k 0)<kf (p.getD ((l+r) / 2) 0)
   .rw[decide_eq_true c];dsimp only;rw[if_pos rfl];refine a6V hc P hk u f l ((l+r) / 2) s' (by omega) (by omega) (by omega) a (λx hx hxk=>?_) i' h;have:=u ((l+r) / 2) x hx hxk;have c':ky kf p k<ky kf p ((l+r) / 2):=c;omega
   .rw[decide_eq_false c];dsimp only;rw[if_neg (by decide)];refine a6V hc P hk u f ((l+r) / 2+1) r s' (by omega) (by omega) (by omega) (λx hx=>?_) b i' h;have:=u x ((l+r) / 2) (by omega) (by omega);have c':ky kf p ((l+r) / 2)<=ky kf p k:=by unfold ky;omega
    omega
theorem apQ{n:Nat}(hc:Asks cmp I kf n):∀(f k:Nat)(p:Array Nat)(s:dh),Pm n p->1<=k->k+f=n->Up kf p k->I s->(∀q s',Pm n q->Up kf q n->I s'->Q q s')->(kas_bin f p k).kasWp cmp Q s
 |0,k,p,s,P,h1,h2,u,i,h=>h p s P (by rw[←h2];exact u) i
 |f+1,k,p,s,P,h1,h2,u,i,h=>by
  unfold kas_bin;rw[KasT.kasWp_bind];refine a6V hc P (by omega) u k 0 k s (vh _) (dz _) (by omega) (λx hx=>absurd hx (Nat.not_lt_zero _)) (λx hx hk=>absurd hx (by omega)) i λm s' l1 a b i'=>?_;have hs:k<p.size:=by rw[P.size];omega
  refine apQ hc f (k+1) _ s' ⟨by rw[bubble_size];exact P.size,((bubble_perm p k _).toList).trans P.perm⟩ (by omega) (by omega) (λx y hxy hy=>?_) i' h
  have e:∀z,ky kf (bubble p k (k - m)) z=if z=m then ky kf p k else if m<z/\z<=k then ky kf p (z - 1)else ky kf p z:=λz=>by
   have e:=getElem?_bubble hs (k - m) (by omega) z;rw[show k - (k - m)=m by omega]at e;by_cases c:z=m
   .rw[if_pos c]at e ⊢;exact congrArg kf (a5L e)
   .rw[if_neg c]at e ⊢;by_cases c2:m<z/\z<=k
    .rw[if_pos c2]at e ⊢;exact congrArg kf (a5L e)
    .rw[if_neg c2]at e ⊢;exact congrArg kf (a5L e)
  have e1:ky kf (bubble p k (k - m)) m=ky kf p k:=by rw[e,if_pos rfl]
  have e2:∀z,m<z->z<=k->ky kf (bubble p k (k - m)) z=ky kf p (z - 1):=λz h1 h2=>by rw[e,if_neg (by omega),if_pos ⟨h1,h2⟩]
  have e3:∀z,z<m->ky kf (bubble p k (k - m)) z=ky kf p z:=λz h1=>by rw[e,if_neg (by omega),if_neg (by omega)]
  rcases zm x m with c|c|c
  .rw[e3 x c];rcases zm y m with d|d|d
   .rw[e3 y d];exact u x y hxy (by omega)
   .rw[d,e1];exact a x c
   .rw[e2 y d (by omega)];exact u x (y - 1) (by omega) (by omega)
  .rw[c,e1];by_cases d:y=m
   .rw[d,e1];exact a1f _
   .rw[e2 y (by omega) (by omega)];exact Int.le_of_lt (b (y - 1) (by omega) (by omega))
  .rw[e2 x c (by omega),e2 y (by omega) (by omega)];exact u (x - 1) (y - 1) (by omega) (by omega)
theorem avF(hc:Asks cmp I kf n)(hd:∀i j,i<n->j<n->kf i=kf j->i=j)(h2:2<=n)(i:I s)(h:∀q s',Pm n q->Up kf q n->I s'->Q q s'):(kas_sort n).kasWp cmp Q s:=by
 unfold kas_sort;rw[KasT.kasWp_bind];refine apP hc hd h2 ⟨by simp,by simp⟩ i λm q s' l1 l2 P u i'=>?_;dsimp only;by_cases c:m<n
 .rw[if_pos c];have e:max m 1=m:=by omega
  rw[e];exact apQ hc (n - m) m q s' P l1 (by omega) u i' h
 .rw[if_neg c];have:m=n:=by omega
  subst this;exact h q s' P u i'
end
variable{vs:List aq}
section
variable{prog:jo}{w:jf}{A:jr}{s:dh}
noncomputable def aeN(prog:jo)(w:jf)(A:jr)(s:dh)(kf:Nat->Int)(vs:List aq)(h':jj):Prop :=
 ∃κ,(∀Q:SortKind->dh->Prop,Q κ {s with heap:=h' }->dg (fj prog w) A (keyKind' vs.toArray) Q (λ_ _=>False) {s with heap:=h' })/\∀i j (C:Bool->dh->Prop),i<vs.length->j<vs.length->C (decide (kf i<kf j)) {s with heap:=h' }->kas_ask prog w A κ vs i j C {s with heap:=h' }
theorem amL{l:List aq}(h:l.length<2):(l.toArray.zip l.toArray).map (·.2)=((jw l.length).toArray.toList.map λi=>l.getD i aq.none).toArray:=by
 cases l with
 |nil=>simp
 |cons v r =>
  cases r with
  |nil=>simp
  |cons _ _=>simp at h;omega
theorem a6W{kf:Nat->Int}(ho:s.heap.get? a=aj (kj "list" vs.toArray n))(h64:vs.length<64)(hd:∀i j,i<vs.length->j<vs.length->kf i=kf j->i=j)
  (hk:2<=vs.length->∀h':jj,(∀b o,b≠a->s.heap.get? b=aj o->h'.get? b=aj o)->aeN prog w A s kf vs h')
  (h:∀q,Pm vs.length q->Up kf q vs.length->P (.done (.ret .none)) {s with heap:=sortedHeap s.heap a vs (q.toList.map λi=>vs.getD i aq.none).toArray}):dg (fj prog w) A (Builtin.«list.sort» ⟨[.ref a],[]⟩) P E s:=by
 have big:1000<cu:=by decide
 have la:a<s.heap.objs.size:=gw ho;rw[list_sort_plain];refine au (listItems_at ho rfl (au (listUpdate_at ho rfl ?_ (by rw[gk];omega) (vh _))));obtain⟨e1,ho1⟩:∃e1,(s.heap.update a (Obj.mapSeq λ_=>(#[]:Array aq))).get? a=aj (kj "list" #[] e1):=⟨_,a1u ho λ_=>#[]⟩;refine au (seqEpoch_at ho1 rfl (au (wpAny_newTuple ?_ (by show vs.length<=_;omega))));refine au (wpAny_newList ?_ (vh _));refine qb ?_;have s0:=jz.update s.heap a (Obj.mapSeq λ_=>(#[]:Array aq));have kp:∀b o,b≠a->s.heap.get? b=aj o->(((s.heap.update a (Obj.mapSeq λ_=>(#[]:Array aq))).push (kj "tuple" vs.toArray 0)).push (kj "list" #[] 0)).get? b=aj o:=λb o hb e=>cg _ (cg _ ((s0.2 b hb).trans e));have ho6:(((s.heap.update a (Obj.mapSeq λ_=>(#[]:Array aq))).push (kj "tuple" vs.toArray 0)).push (kj "list" #[] 0)).get? a=aj (kj "list" #[] e1):=cg _ (cg _ ho1);show dg (fj prog w) A _ P E {s with heap:=((s.heap.update a (Obj.mapSeq λ_=>(#[]:Array aq))).push (kj "tuple" vs.toArray 0)).push (kj "list" #[] 0)};dsimp only;by_cases c2:vs.toArray.size<2
 .rw[if_pos c2,if_pos c2];refine au (cj ?_);rw[StateT.run_pure];refine au (cj ?_);dsimp only;have c3:vs.length<2:=by simpa using c2
  have eo:(arrOf (SortSt.mk' general' (vs.toArray.zip vs.toArray) #[] 7 bh)).map (·.2)=((jw vs.length).toArray.toList.map λi=>vs.getD i aq.none).toArray:=by
   show(vs.toArray.zip vs.toArray).map (·.2)=_;exact amL c3
  refine au (seqEpoch_at ho6 rfl ?_);rw[eo];refine au (listUpdate_at ho6 rfl ?_ (vh _) (by simp;omega));simp only[bne_self_eq_false,ou,if_false];exact cj (h (jw vs.length).toArray ⟨by rw[gk,List.length_range],.refl _⟩ λi j hij hj=>by have:i=j:=(by omega);subst this;exact a1f _)
 .rw[if_neg c2,if_neg c2];have l2:2<=vs.length:=by rw[gk]at c2;omega
  obtain⟨κ,k1,k2⟩:=hk l2 _ kp;refine au (qm (k1 (λκ' s'=>κ'=κ/\s'={s with heap:=((s.heap.update a (Obj.mapSeq λ_=>(#[]:Array aq))).push (kj "tuple" vs.toArray 0)).push (kj "list" #[] 0)}) ⟨rfl,rfl⟩) (λκ' s' ⟨q1,q2⟩=>?_) λ_ _ z=>z.elim);subst q1;subst q2
  refine au (qm (kat_run (Q:=λst' s'=>s'={s with heap:=((s.heap.update a (Obj.mapSeq λ_=>(#[]:Array aq))).push (kj "tuple" vs.toArray 0)).push (kj "list" #[] 0)}/\failedOf st'=bh/\∃q,Pm vs.length q/\Up kf q vs.length/\arrOf st'=q.map (kas_item (vs.toArray.zip vs.toArray)))
   (G:=λq s'=>s'={s with heap:=((s.heap.update a (Obj.mapSeq λ_=>(#[]:Array aq))).push (kj "tuple" vs.toArray 0)).push (kj "list" #[] 0)}/\Pm vs.length q/\Up kf q vs.length) rfl l2 h64 (λp st' s' a1 a2 a3 a4=>⟨a4.1,a3,p,a4.2.1,a4.2.2,a2⟩)
   (avF (I:=λs'=>s'={s with heap:=((s.heap.update a (Obj.mapSeq λ_=>(#[]:Array aq))).push (kj "tuple" vs.toArray 0)).push (kj "list" #[] 0)}) (λi j C s' hi hj es hC=>by subst es;exact k2 i j C hi hj (hC _ rfl)) hd l2 rfl λq s' P u es=>⟨es,P,u⟩)) ?_ λ_ _ e=>e)
  rintro⟨⟨⟩,st'⟩ s' ⟨es,hf,q,P,u,har⟩;subst es;dsimp only;refine au (seqEpoch_at ho6 rfl ?_);rw[kat_snds rfl har];refine au (listUpdate_at ho6 rfl ?_ (vh _) (by rw[gk,dj,vo,P.size];omega));rw[hf];simp only[bne_self_eq_false,ou,if_false];exact cj (h q P u)
theorem aeO{kf:Nat->Int}(hl:s.heap.IsList l vs.toArray)(h64:vs.length<64)(hd:∀i j,i<vs.length->j<vs.length->kf i=kf j->i=j)
  (hk:2<=vs.length->∀h':jj,(∀b o,s.heap.get? b=aj o->h'.get? b=aj o)->aeN prog w A.in1.in1 s kf vs h')
  (h:∀q,Pm vs.length q->Up kf q vs.length->Q (.ref (s.heap.objs.size+1)) {s with heap:=sortedAll s.heap vs (q.toList.map λi=>vs.getD i aq.none).toArray}):dg (fj prog w) A (call (.builtin "sorted") [.ref l]) Q E s:=by
 have big:1000<cu:=by decide
 refine Calls.call_function_entry kind_sorted plain_sorted entry_sorted (args_sorted1 _) ?_;unfold Builtin.«sorted»;refine au (m:=checkCount "sorted" 1 1 _) (cj (au (collect_list hl (au (wpAny_newList ?_ (by omega))) (by omega))));have sz:((s.heap.push (kj "list" #[] 0)).update s.heap.objs.size (Obj.mapSeq (·++vs.toArray))).objs.size=s.heap.objs.size+1:=by rw[Heap.size_update,size_push']
 have oL:(((s.heap.push (kj "list" #[] 0)).update s.heap.objs.size (Obj.mapSeq (·++vs.toArray))).push (kj "list" vs.toArray 0)).get? (s.heap.objs.size+1)=aj (kj "list" vs.toArray 0):=by rw[←sz];exact ig _ rfl
 have kp:∀b o,s.heap.get? b=aj o->(((s.heap.push (kj "list" #[] 0)).update s.heap.objs.size (Obj.mapSeq (·++vs.toArray))).push (kj "list" vs.toArray 0)).get? b=aj o:=λb o e=>cg _ (((jz.update (s.heap.push (kj "list" #[] 0)) s.heap.objs.size (Obj.mapSeq (·++vs.toArray))).2 b (jc (gw e))).trans (cg _ e));show dg _ _ _ _ _ {s with heap:=((s.heap.push (kj "list" #[] 0)).update s.heap.objs.size (Obj.mapSeq (·++vs.toArray))).push (kj "list" vs.toArray 0)};rw[sz];refine au (qb (wj slot_list_sort ⟨_,oL,rfl⟩ entry_list_sort (a6W (kf:=kf) oL h64 hd (λl2 h' k'=>?_) λq P u=>⟨_,rfl,cj ⟨_,rfl,h q P u⟩⟩) (args_list_sort _)));exact hk l2 h' λb o e=>k' b o (jc (a1g (gw e))) (kp b o e)
end
def pI(a b:Int×Int):Prop:=a.1<b.1∨(a.1=b.1/\a.2<b.2)
instance (a b:Int×Int):Decidable (pI a b):=by unfold pI;infer_instance
noncomputable def dG:List (Int×Int)->Prop:=a1r pI
noncomputable def enc(M:Int)(a:Int×Int):Int:=a.1*M+a.2
variable{M:Int}
theorem qQ(hM:2*B<M){a b:Int×Int}(ha:-B<=a.2/\a.2<=B)(hb:-B<=b.2/\b.2<=B):enc M a<enc M b↔pI a b:=by
 unfold enc pI;have m0:0<=M:=by omega
 rcases Int.lt_trichotomy a.1 b.1 with c|c|c
 .have:a.1*M<=(b.1 - 1)*M:=Int.mul_le_mul_of_nonneg_right (by omega) m0;rw[Int.sub_mul,Int.one_mul]at this;exact⟨λ_=>.inl c,λ_=>by omega⟩
 .rw[c];exact⟨λ_=>.inr ⟨rfl,by omega⟩,λh=>by rcases h with h|h<;>omega⟩
 .have:b.1*M<=(a.1 - 1)*M:=Int.mul_le_mul_of_nonneg_right (by omega) m0;rw[Int.sub_mul,Int.one_mul]at this;exact⟨λ_=>by omega,λh=>by rcases h with h|h<;>omega⟩
theorem a0K:∀ps:List (Int×Int),∃B:Int,0<=B/\∀p∈ps,-B<=p.2/\p.2<=B
 |[]=>⟨0,a1f _,λp h=>by cases h⟩
 |p::r=>by
  obtain⟨B,b0,h⟩:=a0K r;refine⟨B+p.2.natAbs,by omega,λq hq=>?_⟩;rcases je.mp hq with rfl|hq
  .omega
  .have:=h q hq;omega
section
variable{prog:jo}{w:jf}{A:jr}{s:dh}
def a0L(h:jj)(ps:List (Int×Int))(vs:List aq):Prop:=vs.length=ps.length/\∀(i:Nat)(p:Int×Int),ps[i]?=aj p->∃(a:bw)(o:Obj)(n:Nat)(x y:Tok),vs[i]?=aj (aq.ref a)/\h.get? a=aj o/\o.cls=aq.type "tuple"/\o.data=.seq #[.int p.1 x,.int p.2 y] n
theorem a0L.firsts{h:jj}:∀{ps:List (Int×Int)}{vs:List aq},a0L h ps vs->∃fs:List aq,KatTups h vs fs/\fs.length=ps.length/\∀v∈fs,∃i t,v=.int i t
 |[],[],_=>⟨[],trivial,rfl,λv h=>by cases h⟩
 |[],_::_,H=>absurd H.1 (by simp)
 |_::_,[],H=>absurd H.1 (by simp)
 |p::ps,v::vs,H=>by
  obtain⟨a,o,n,x,y,e1,e2,e3,e4⟩:=H.2 0 p rfl;obtain⟨fs,k1,k2,k3⟩:=a0L.firsts (h:=h) (ps:=ps) (vs:=vs) ⟨by simpa using H.1,λi q hq=>by simpa using H.2 (i+1) q (by simpa using hq)⟩;have e1':v=.ref a:=by simpa using e1
  subst e1';refine⟨.int p.1 x::fs,KatTups.cons e2 e3 e4 rfl k1,by simp[k2],λu hu=>?_⟩;rcases je.mp hu with rfl|hu
  .exact⟨_,_,rfl⟩
  .exact k3 u hu
theorem a2M{ps:List (Int×Int)}(hM:2*B<M)(hB:∀p∈ps,-B<=p.2/\p.2<=B)(l2:2<=vs.length)(hp:a0L h' ps vs):aeN prog w A s (λi=>enc M (ps.getD i (0,0))) vs h':=by
 obtain⟨fs,k1,k2,k3⟩:=hp.firsts;have len:=hp.1;refine⟨tuples' (aq.type "int"!=aq.type "tuple"),λQ hQ=>kat_kind (s:={s with heap:=h' }) k1 (by omega) (λv hv=>?_) (by simp) hQ,λi j C hi hj hC=>?_⟩
 .obtain⟨i,t,rfl⟩:=k3 v hv;exact .now
 .obtain⟨p,ep⟩:∃p,ps[i]?=aj p:=⟨_,gV (by omega)⟩;obtain⟨q,eq⟩:∃q,ps[j]?=aj q:=⟨_,gV (by omega)⟩;obtain⟨a,o,n,x,y,a1,a2,a3,a4⟩:=hp.2 i p ep;obtain⟨b,o',n',x',y',b1,b2,b3,b4⟩:=hp.2 j q eq;have ga:vs.getD i aq.none=.ref a:=by simp[qz,a1]
  have gb:vs.getD j aq.none=.ref b:=by simp[qz,b1]
  have gp:ps.getD i (0,0)=p:=by simp[qz,ep]
  have gq:ps.getD j (0,0)=q:=by simp[qz,eq]
  have key:=qQ hM (hB p (jx ep)) (hB q (jx eq))
  have hC:C (decide (enc M p<enc M q)) {s with heap:=h' }:=by
   have e:decide (enc M (ps.getD i (0,0))<enc M (ps.getD j (0,0)))=decide (enc M p<enc M q):=by rw[decide_eq_decide,gp,gq]
   rw[←e];exact hC
  unfold kas_ask;rw[ga,gb];refine kat_lt (s:={s with heap:=h' }) a2 a4 b2 b4 ?_;refine kat_cons (wpAny_eqBool_int ?_);refine kat_go (λe=>kat_yes (kat_cons (wpAny_eqBool_int (kat_go (λe2=>kat_yes (kat_nil ?_)) λe2=>kat_no (kat_one _ _ ?_))))) λe=>kat_no (oneLt_int ?_)
  .have c1:p.1=q.1:=by simpa using e
   have c2:p.2=q.2:=by simpa using e2
   rw[decide_eq_false (show ¬ enc M p<enc M q from λz=>by rcases key.mp z with z|z<;>omega)]at hC;exact hC
  .have c1:p.1=q.1:=by simpa using e
   have c2:p.2≠q.2:=by simpa using e2
   refine CmpOf.ints_lt (prog:=prog) (w:=w) (A:=A) (P:=λi v=>∃t,v=.int (if i=0 then p.2 else q.2) t) (λi=>if i=0 then p.2 else q.2) (λi v h=>h) 0 1 _ _ _ _ _ ⟨y,rfl⟩ ⟨y',rfl⟩ ?_
   have:decide (enc M p<enc M q)=decide ((if(0:Nat)=0 then p.2 else q.2)<(if(1:Nat)=0 then p.2 else q.2)):=by
    rw[decide_eq_decide,key,if_pos rfl,if_neg (by decide)];unfold pI;omega
   rw[this]at hC;exact(show PySem.W.BoolBack C (.bool _) _ from hC)
  .have c1:p.1≠q.1:=by simpa using e
   have:decide (enc M p<enc M q)=decide (p.1<q.1):=by
    rw[decide_eq_decide,key];unfold pI;omega
   rw[this]at hC;exact hC
end
end
variable{out:Array aq}
section
open PySem.W
theorem getD_at{α:Type}{l:List α}{i:Nat}{d:α}(h:i<l.length):l.getD i d=l[i]:=by simp[qz,h]
noncomputable abbrev cY(q:Int×Int):D:=.tup [.int q.1,.int q.2]
theorem ajZ{h:jj}(e:h.get? b=aj u):(sortedAll h vs out).get? b=aj u:=by
 have lb:b<h.objs.size:=gw e;have n0:b≠h.objs.size:=jc lb;have n1:b≠h.objs.size+1:=jc (a1g lb);unfold sortedAll sortedHeap;rw[(jz.update _ _ _).2 b n1];refine cg _ (cg _ ?_);rw[(jz.update _ _ _).2 b n1];refine cg _ ?_;rw[(jz.update _ _ _).2 b n0];exact cg _ e
theorem apR{h:jj}:∃c,(sortedAll h vs out).get? (h.objs.size+1)=aj (kj "list" out c):=by
 have sz:((h.push (kj "list" #[] 0)).update h.objs.size (Obj.mapSeq (·++vs.toArray))).objs.size=h.objs.size+1:=by rw[Heap.size_update,size_push']
 have oL:(((h.push (kj "list" #[] 0)).update h.objs.size (Obj.mapSeq (·++vs.toArray))).push (kj "list" vs.toArray 0)).get? (h.objs.size+1)=aj (kj "list" vs.toArray 0):=by rw[←sz];exact ig _ rfl
 unfold sortedAll sortedHeap;obtain⟨c1,e1⟩:∃c,((((h.push (kj "list" #[] 0)).update h.objs.size (Obj.mapSeq (·++vs.toArray))).push (kj "list" vs.toArray 0)).update (h.objs.size+1) (Obj.mapSeq λ_=>#[])).get? (h.objs.size+1)=aj (kj "list" #[] c):=⟨_,a1u oL λ_=>#[]⟩;exact⟨_,a1u (cg _ (cg _ e1)) λ_=>out⟩
variable{ps:List (Int×Int)}{M:Int}
section
variable{X:Cx}
theorem pairs_at(I:Inv X pins σ H s)(r:bW X.K H (ps.map cY) xs)(rv:Vals xs us):a0L s.heap ps us:=by
 refine⟨by rw[←rv.length,←r.length,dj],λi p hp=>?_⟩;obtain⟨v,e1,rd⟩:=r.get (i:=i) (d:=cY p) (by rw[vp,hp];rfl);obtain⟨u,e2,ru⟩:=rv.get e1;cases rd with
 |@tup a zs _ hq rz _ =>
  obtain rfl:u=aq.ref a:=ru;obtain⟨its,vi,⟨o,h1,h2,n,h3⟩,_⟩:=I.tuple hq;cases rz with
  |cons ra rb =>
  cases rb with
  |cons rb rc =>
  cases rc;cases ra;cases rb;cases vi with
  |cons va vb =>
  cases vb with
  |cons vb vc =>
  cases vc;obtain⟨x,rfl⟩:=va;obtain⟨y,rfl⟩:=vb;exact⟨a,o,n,x,y,e2,h1,h2,h3⟩
theorem a2N(hM:2*B<M)(hB:∀p∈ps,-B<=p.2/\p.2<=B)(nd:ps.Nodup)(P:Pm ps.length q)(u:Up (λi=>enc M (ps.getD i (0,0))) q ps.length):(q.toList.map λi=>ps.getD i (0,0)).Perm ps/\dG (q.toList.map λi=>ps.getD i (0,0)):=by
 have id0:(jw ps.length).map (λi=>ps.getD i (0,0))=ps:=by
  apply List.ext_getElem (by simp);intro i h1 h2;simp[h2]
 refine⟨by have:=P.perm.map λi=>ps.getD i (0,0);rw[id0]at this;exact this,?_⟩;unfold dG;rw[zp,yc];intro i j hi hj hij;have li:i<q.size:=by simpa using hi
 have lj:j<q.size:=by simpa using hj
 have gi:q.toList[i]=q.getD i 0:=by simp[Array.getD,li]
 have gj:q.toList[j]=q.getD j 0:=by simp[Array.getD,lj]
 rw[gi,gj];have bi:=P.lt (i:=i) (by rw[←P.size];exact li);have bj:=P.lt (i:=j) (by rw[←P.size];exact lj);have le:enc M (ps.getD (q.getD i 0) (0,0))<=enc M (ps.getD (q.getD j 0) (0,0)):=u i j (ux hij) (by rw[←P.size];exact lj);have mi:ps.getD (q.getD i 0) (0,0)∈ps:=by rw[getD_at bi];exact wz _
 have mj:ps.getD (q.getD j 0) (0,0)∈ps:=by rw[getD_at bj];exact wz _
 have k1:=qQ hM (hB _ mi) (hB _ mj);have k2:=qQ hM (hB _ mj) (hB _ mi);refine k1.mp ?_;rcases Int.lt_or_eq_of_le le with z|z
 .exact z
 .exfalso
  have e:ps.getD (q.getD i 0) (0,0)=ps.getD (q.getD j 0) (0,0):=by
   have n1:¬ pI (ps.getD (q.getD i 0) (0,0)) (ps.getD (q.getD j 0) (0,0)):=λw=>absurd (k1.mpr w) (by omega);have n2:¬ pI (ps.getD (q.getD j 0) (0,0)) (ps.getD (q.getD i 0) (0,0)):=λw=>absurd (k2.mpr w) (by omega);unfold pI at n1 n2;exact Prod.ext (by omega) (by omega)
  have e2:ps[q.getD i 0]=ps[q.getD j 0]:=by rw[getD_at bi,getD_at bj]at e;exact e
  have key:=yc.mp nd;rcases zm (q.getD i 0) (q.getD j 0)with w|w|w
  .exact key _ _ bi bj w e2
  .have:=P.inj (by rw[←P.size];exact li) (by rw[←P.size];exact lj) w;omega
  .exact key _ _ bj bi w e2.symm
theorem a6X{K:Fg}{ps:List (Int×Int)}{xs:List V}(r:bW K H (ps.map cY) xs):∀{l:List Nat},(∀i∈l,i<ps.length)->bW K H ((l.map λi=>ps.getD i (0,0)).map cY) (l.map λi=>xs.getD i .non)
 |[],_=>.nil
 |i::l,h=>by
  obtain⟨v,e1,rd⟩:=r.get (i:=i) (d:=cY (ps.getD i (0,0))) (by have:=h i (by simp);simp[qz,this]);have:xs.getD i .non=v:=by simp[qz,e1]
  refine .cons ?_ (a6X r λj hj=>h j (by simp[hj]));show RD K H (cY (ps.getD i (0,0))) (xs.getD i .non);rw[this];exact rd
theorem xF{xs:List V}{us:List aq}(r:Vals xs us):∀{l:List Nat},(∀i∈l,i<xs.length)->Vals (l.map λi=>xs.getD i .non) (l.map λi=>us.getD i aq.none)
 |[],_=>.nil
 |i::l,h=>by
  have hi:=h i (by simp);obtain⟨u,e1,ru⟩:=r.get (gV hi);have e2:xs.getD i .non=xs[i]:=by simp[qz,hi]
  have e3:us.getD i aq.none=u:=by simp[qz,e1]
  refine .cons ?_ (xF r λj hj=>h j (by simp[hj]));show RelV (xs.getD i .non) (us.getD i aq.none);rw[e2,e3];exact ru
def ayX(ds:List D)(G:Gp)(R:fZ):Prop:=∃ps:List (Int×Int),ds=ps.map cY/\ps.Nodup/\ps.length<64/\∀qs:List (Int×Int),qs.Perm ps->dG qs->∀r,G r=bh->R (.ref r) (aH G r (.lst (qs.map cY)))
noncomputable def tL:List D->Gp->fZ->Prop:=λxs G R=>match xs with
 |[.ref a]=>(match aY G a with
  |some ds=>ayX ds G R
  |none=>False)
 |_=>False
theorem avG{σ:St}{H:Hp}(I:Inv X pins σ H s){G:Gp}{R:fZ}{Q:VK}(g:HR X.K H G){xs:List V}{us:List aq}(r:bW X.K H (ps.map cY) xs)(rv:Vals xs us)(nd:ps.Nodup)(h64:ps.length<64)(hM:2*B<M)(hB:∀p∈ps,-B<=p.2/\p.2<=B)
  (k:∀v H' d G',Ts H H'->RD X.K H' d v->HR X.K H' G'->R d G'->Q v H')(h:∀qs:List (Int×Int),qs.Perm ps->dG qs->∀r,G r=bh->R (.ref r) (aH G r (.lst (qs.map cY))))(P:Pm us.length q)(u:Up (λi=>enc M (ps.getD i (0,0))) q us.length):EP X pins σ Q (.ref (s.heap.objs.size+1)) {s with heap:=sortedAll s.heap us (q.toList.map λi=>us.getD i aq.none).toArray}:=by
 have big:1000<cu:=by decide
 have l1:us.length=ps.length:=by rw[←rv.length,←r.length,dj]
 have l2:xs.length=ps.length:=by rw[←r.length,dj]
 rw[l1]at P u;obtain⟨p1,p2⟩:=a2N hM hB nd P u;have hin:∀i∈q.toList,i<ps.length:=λi hi=>xg.mp (P.perm.mem_iff.mp hi);have fr:H (s.heap.objs.size+1)=bh:=I.hok.fresh (a1e _);have sn:Same H (upd H (s.heap.objs.size+1) (.lst (q.toList.map λi=>xs.getD i .non))):=bG fr;obtain⟨c,hc⟩:=apR (h:=s.heap) (vs:=us) (out:=(q.toList.map λi=>us.getD i aq.none).toArray)
 have J:Inv X pins σ (upd H (s.heap.objs.size+1) (.lst (q.toList.map λi=>xs.getD i .non))) {s with heap:=sortedAll s.heap us (q.toList.map λi=>us.getD i aq.none).toArray} :=
  I.laid (t':=s.toks) (λb o e=>ajZ e) (a1e _) ⟨by rw[dj,vo,P.size];omega,_,c,xF rv λi hi=>by rw[l2];exact hin i hi,hc⟩
 have kf:=nG J;exact⟨.ref (s.heap.objs.size+1),_,J,rfl,k _ _ (.ref _) _ (.same sn) (.ref _) (g.put (u:=.lst _) fr ⟨_,aK,(a6X r hin).mono (.same sn)⟩) (h _ p1 p2 _ (gH g fr kf))⟩
set_option tactic.hygienic true in
theorem avH:d8 X (.builtin "sorted") tL:=by
 intro pins s σ H xs vs us G R Q I rx rv g q k;unfold tL at q;split at q
 .rename_i a;split at q
  .rename_i ds e1;obtain⟨ps,rfl,nd,h64,h⟩:=q;cases rx with
   |cons r1 rr =>
   cases rr;cases r1;cases rv with
   |cons rv rr =>
   cases rr;cases rv;obtain⟨zs,hq,r⟩:=bU g e1;obtain⟨its,vi,pl,_⟩:=I.list hq;obtain⟨B,b0,hB⟩:=a0K ps;have hp:=pairs_at I r vi;have hM:2*B<2*B+1:=by omega
   refine aeO (kf:=λi=>enc (2*B+1) (ps.getD i (0,0))) pl.isList (by rw[hp.1];exact h64) (λi j hi hj e=>?_) (λl2 h' kp=>a2M hM hB l2 ⟨hp.1,λi p ei=>?_⟩) λq P u=>avG I g r vi nd h64 hM hB k h P u
   .rw[hp.1]at hi hj;have mi:ps.getD i (0,0)∈ps:=by simp[qz,hi]
    have mj:ps.getD j (0,0)∈ps:=by simp[qz,hj]
    have k1:=qQ hM (hB _ mi) (hB _ mj);have k2:=qQ hM (hB _ mj) (hB _ mi);have e':enc (2*B+1) (ps.getD i (0,0))=enc (2*B+1) (ps.getD j (0,0)):=e
    have ee:ps.getD i (0,0)=ps.getD j (0,0):=by
     have n1:¬ pI (ps.getD i (0,0)) (ps.getD j (0,0)):=λw=>absurd (k1.mpr w) (by omega);have n2:¬ pI (ps.getD j (0,0)) (ps.getD i (0,0)):=λw=>absurd (k2.mpr w) (by omega);unfold pI at n1 n2;exact Prod.ext (by omega) (by omega)
    have e2:ps[i]=ps[j]:=by simpa[qz,hi,hj]using ee
    have key:=yc.mp nd;rcases zm i j with w|w|w
    .exact absurd e2 (key _ _ hi hj w)
    .exact w
    .exact absurd e2.symm (key _ _ hj hi w)
   .obtain⟨a,o,n,x,y,z1,z2,z3,z4⟩:=hp.2 i p ei;exact⟨a,o,n,x,y,z1,kp _ _ z2,z3,z4⟩
  .exact q.elim
 .exact q.elim
end
end
variable{h':jj}
section
open PySem.W
def nH(h:jj)(d:bw)(es:Array yj)(ep:Nat):Prop:=∃o,h.get? d=aj o/\o.ExactDict/\o.data=.dict es ep
section
variable{prog:jo}{w:jf}{A:jr}{s:dh}{es:Array yj}{ep i:Nat}
theorem nH.typeIs(hm:nH s.heap d es ep):s.TypeIs (.ref d) "dict":=let⟨o,ho,hc,_⟩:=hm;⟨o,ho,hc.1⟩
theorem nH.lt{h:jj}(hm:nH h d es ep):d<h.objs.size:=let⟨_,ho,_⟩:=hm;gw ho
theorem nH.at{h:jj}(hm:nH h d es ep)(k:∀o,h.get? d=aj o->h'.get? d=aj o):nH h' d es ep:=let⟨o,ho,r⟩:=hm;⟨o,k o ho,r⟩
theorem ac6(hd:(d==nj)=ao)(hm:nH s.heap d es ep)(hQ:Q (.ref s.heap.objs.size) {s with heap:=s.heap.push {cls:=.type "dict_keyiterator",data:=.fields #[.ref d,.int 0 0,.int es.size 0,.int ep 0]}}):dg (fj prog w) A (pyIter (.ref d)) Q E s:=by
 have T:=hm.typeIs;obtain⟨o,ho,hc,hdat⟩:=hm;refine wpAny_pyIter_slot T F.slot_dict_iter (wj F.slot_dict_iter T F.entry_dict_iter ?_ (F.args_dict_iter_1 _));unfold Builtin.«dict.__iter__»;refine au ?_;unfold Builtin.Dict.dictSlotNone;refine au (wpAny_notOrdered_dict T ?_);show dg _ _ (pure (aq.ref d)) _ _ s;refine cj ?_;show dg _ _ (Builtin.Dict.showsAll d >>= _) _ _ s;unfold Builtin.Dict.showsAll;rw[if_neg (by rw[hd];exact oh)];refine au (cj (au (vq ho hdat (au (wpAny_dictEpoch ho hdat (au (zj (cj ⟨_,rfl,"dict_keyiterator",_,⟨_,ig _ rfl,rfl⟩,F.slot_dict_keyiterator_next.lookup,?_⟩))))))));simpa[a1k]using hQ
theorem a5M{e:yj}(hit:s.heap.IsKeyIter it d i es.size ep)(hm:nH s.heap d es ep)(hx:es[i]?=aj e)
  (hQ:∀h',h'.IsKeyIter it d (i+1) es.size ep->jz it s.heap h'->Q (aj e.key) {s with heap:=h' }):dg (fj prog w) A (a0c (.ref it)) Q E s:=by
 obtain⟨o,ho,hc,hd⟩:=id hit;obtain⟨od,hod,hcd,hdd⟩:=hm;have lt:i<es.size:=(a0l.mp hx).1;unfold a0c;refine au (wpAny_attempt (a2a (name:=Str.ofString "__next__") hit.typeIs F.slot_dict_keyiterator_next (wj F.slot_dict_keyiterator_next hit.typeIs F.entry_dict_keyiterator_next ?_ (F.args_dict_keyiterator_next_1 _))));refine au (cj ?_);refine au ?_;refine au ?_
 (first|refine au (zu hit.typeIs (cj ?_))|refine au (a0t hit.typeIs (cj ?_)));refine au (wpAny_fieldsOf ho hd ?_)
 have own:Builtin.Dict_items.ownsTuple "dict_keyiterator"=ao:=by decide
 simp only[own,ou,if_false];show dg _ _ (if(aq.ref d==aq.none)=ak then _ else _) _ _ s;rw[if_neg (show ¬ ((aq.ref d==aq.none)=ak)from oh)];refine au (cj (au (vq hod hdd ?_)));rw[if_neg (by simp)];refine au (cj (au (wpAny_dictEpoch hod hdd ?_)));rw[if_neg (by simp)];refine cj ?_;simp only[show ¬ ((i:Int)<0)from by omega,if_false,a0m,hx];refine au ?_
 (first|refine au (zu hit.typeIs (cj ?_))|refine au (a0t hit.typeIs (cj ?_)));refine au (wpAny_isOneOf_keyiter hit.typeIs ?_)
 show dg _ _ (setField (.ref it) 1 (a1k ((i:Int)+1)) >>= _) _ _ s;refine au (yh ho hd (by simp) ?_);have hit':(s.heap.update it (Obj.mapFields (·.setIfInBounds 1 (a1k ((i:Int)+1))))).IsKeyIter it d (i+1) es.size ep:=⟨_,a1j _ ho (Obj.isFreed_of_fields (Obj.data_mapFields hd _)),(Obj.cls_mapFields ..).trans hc,by rw[Obj.data_mapFields hd];simp[a1k]⟩;refine au (qb (au (wpAny_isOneOf_keyiter (s:={s with heap:=s.heap.update it (Obj.mapFields (·.setIfInBounds 1 (a1k ((i:Int)+1))))}) hit'.typeIs ?_)));show dg _ _ (pure e.key) _ _ _;exact cj (cj ⟨_,rfl,cj (hQ _ hit' (jz.update ..))⟩)
theorem ac7(hh:A.handled=bh)(hit:s.heap.IsKeyIter it d i es.size ep)(hm:nH s.heap d es ep)(hx:es.size<=i)(hQ:∀h',a2e it s.heap h'->Q bh {s with heap:=h' }):dg (fj prog w) A (a0c (.ref it)) Q E s:=by
 obtain⟨o,ho,hc,hd⟩:=id hit;obtain⟨od,hod,hcd,hdd⟩:=hm;unfold a0c;refine au (wpAny_attempt (a2a (name:=Str.ofString "__next__") hit.typeIs F.slot_dict_keyiterator_next (wj F.slot_dict_keyiterator_next hit.typeIs F.entry_dict_keyiterator_next ?_ (F.args_dict_keyiterator_next_1 _))));refine au (cj ?_);refine au ?_;refine au ?_
 (first|refine au (zu hit.typeIs (cj ?_))|refine au (a0t hit.typeIs (cj ?_)));refine au (wpAny_fieldsOf ho hd ?_)
 have own:Builtin.Dict_items.ownsTuple "dict_keyiterator"=ao:=by decide
 simp only[own,ou,if_false];show dg _ _ (if(aq.ref d==aq.none)=ak then _ else _) _ _ s;rw[if_neg (show ¬ ((aq.ref d==aq.none)=ak)from oh)];refine au (cj (au (vq hod hdd ?_)));rw[if_neg (by simp)];refine au (cj (au (wpAny_dictEpoch hod hdd ?_)));rw[if_neg (by simp)];refine cj ?_;simp only[show ¬ ((i:Int)<0)from by omega,if_false,a0m,Array.getElem?_eq_none hx];refine au ?_
 (first|refine au (zu hit.typeIs (cj ?_))|refine au (a0t hit.typeIs (cj ?_)));show dg _ _ (setField (.ref it) 0 .none >>= _) _ _ s
 refine au (yh ho hd (by simp) ?_);show dg _ _ (newExc (.type "StopIteration") [] >>= _) _ _ _;refine au ?_;simp only[newExc,newTuple];refine au (zj ?_ (by size_fits));refine au (m:=firstArgMember _ _) (wpAny_of_eq (a:=Value.none) (by first|rfl|(simp only[firstArgMember];rfl)) (zj ?_ (by size_fits)));simp only[raiseNew];refine au (wpAny_handled ?_);rw[show A.in1.handled=bh from hh];refine au (cj (wpAny_throw ?_));refine au (wpAny_isInstance (T:="StopIteration") (b:=true) ⟨_,ig _ rfl,rfl⟩ isSubtype_stop ?_);refine cj (hQ _ λb o' hb e=>?_);exact cg _ (cg _ (((jz.update _ _ _).2 b hb).trans e))
theorem apS(hh:A.handled=bh)(I:bw)(hne:d≠I):Walks prog w A I [I,d] [I] es.size (λi v=>∃e,es[i]?=aj e/\v=e.key) (λi h=>h.IsKeyIter I d i es.size ep/\nH h d es ep) where
 sub:=λb hb=>by simp at hb;simp[hb]
 frame:=λ_ _ _ st hk=>⟨st.1.at λo e=>hk I (by simp) o e,st.2.at λo e=>hk d (by simp) o e⟩
 item:=λi s Q E hi st hQ=>by
  have hx:es[i]?=aj es[i]:=a1v hi;exact a5M st.1 st.2 hx λh' hit' hs'=>hQ _ h' s.toks ⟨_,hx,rfl⟩ ⟨hit',st.2.at λo e=>hs'.extBut _ o hne e⟩ λb o hb e=>hs'.extBut b o (λh=>hb (by simp[h])) e
 done:=λs Q E st hQ=>ac7 hh st.1 st.2 (dz _) λh' he'=>hQ h' s.toks λb o hb e=>he' b o (λh=>hb (by simp[h])) e
 self:=λ_ _ _ _ st hQ=>wpAny_pyIter_keyiter st.1 hQ
theorem aCI(lo:(d==nj)=ao):KdlSrc prog w "dict" d d es.size (λi v=>∃e,es[i]?=aj e/\v=e.key) (λh=>nH h d es ep) where
 type:=λ_ hm=>hm.typeIs
 there:=λ_ hm=>⟨hm.lt,hm.lt⟩
 keep:=λ_ _ hm hk=>hm.at λo e=>hk d (.inl rfl) o e
 notList:=by decide
 notTuple:=by decide
 hint:=λ_ _ _ _ hm hq=>kdl_hint_dict hm.typeIs hq
 iter:=λ_ s hh hm=>⟨_,_,(λ_ _ hq=>ac6 lo hm hq),apS hh _ (jc hm.lt),⟨⟨_,ig _ rfl,rfl,rfl⟩,hm.at λo e=>cg _ e⟩⟩
end
end
section
open PySem.W
section
end
section
end
end
variable{its:Array aq}
section
open PySem.W
theorem avI:typeLookup (.type "list") "keys"=pure bh:=by rw[typeLookup_type,builtinLookup_eq_fast];kernel_rfl
variable{o:Obj}{x:List Key×bw×aq}{ps:List (List Key×bw×aq)}
section
variable{prog:jo}{w:jf}{A:jr}{s:dh}
theorem ak0{k:Nat} 
  (hx:s.heap.get? a=aj o)(hc:o.cls=.type "list")(hdat:o.data=.seq xs k)(hd:o.dict=bh)(hA:A.handled=bh)
  (h:∀h' tk,(∀b o,s.heap.get? b=aj o->h'.get? b=aj o)->Q bh {s with heap:=h',toks:=tk}) :
  dg (fj prog w) A (getAttr? (.ref a) "keys") Q E s:=by
 obtain⟨c,dct,dat,sl⟩:=o;simp only at hc hdat hd;subst hc hdat hd;obtain⟨hp,g,d,tk,os⟩:=s;have hT:∀tk',(⟨hp,g,d,tk',os⟩:dh).TypeIs (.ref a) "list":=λ_=>⟨_,hx,rfl⟩;have f1:=sub_AttributeError;have f3:=F.slot_list_getattribute.lookup;have f4:=F.slot_list_getattribute.bind (.ref a);have f5:=am_list_getattr_none;unfold getAttr? getAttrBy? getAttrBy
 repeat (any_goals (first|assumption|exact hT _|((with_reducible show dg _ _ (call (aq.builtin "list.__getattribute__") _ _) _ _ _);refine call_meets F.slot_list_getattribute (hT _) am_entry_list_getattribute (F.args_list_getattribute_2 _ _) (meets_getattribute_miss_list a xs k sl "keys" _ avI (by decide) (by decide)) ⟨hx,hA,λh' tk' e hx'=>?_⟩)|wp_step))
 obtain⟨t',u',he⟩:=hx'.there;show dg _ _ (getattributeRaised _ _ _ _ _ _ _) _ _ _;unfold getattributeRaised
 repeat (any_goals (first|assumption|wp_step))
 exact h _ _ hx'.keeps
theorem a0M:entryFor table "dict.update.loop"=aj Builtin.«dict.update.loop» :=entryFor_of_fast (by kernel_rfl)
theorem mH:plainId "dict.update.loop"=ak:=by decide+kernel
noncomputable abbrev TK(prog:jo)(w:jf):=tupleKind (aF prog w)
def avJ(prog:jo)(w:jf)(h:jj)(v:aq)(x:List Key×bw×aq):Prop:=∃p o n,v=.ref p/\h.get? p=aj o/\o.cls=.type "tuple"/\o.data=.seq #[.ref x.2.1,x.2.2] n/\(TK prog w).is h x.1 x.2.1
noncomputable def aaB(xs ps:List (List Key×bw×aq)):List (List Key×bw×aq):=ps.foldl (λacc x=>a0i acc x.1 x.2.1 x.2.2) xs
theorem ac8{h:jj}{ks:List Key}(x:(TK prog w).is h ks a)(k:∀o,h.get? a=aj o->h'.get? a=aj o):(TK prog w).is h' ks a:=by
 obtain⟨o,its,n,h1,r⟩:=x;exact⟨o,its,n,k _ h1,r⟩
theorem a3Y(xs:List (List Key×bw×aq))(k:List Key)(a:bw)(v:aq):(a0i xs k a v).length<=xs.length+1:=by
 unfold a0i;split<;>simp
theorem aeP{k:List Key}{y:List Key×bw×aq}(h:y∈a0i xs k a v):y.2.1=a∨∃x∈xs,y.2.1=x.2.1:=by
 unfold a0i at h;split at h
 .obtain⟨x,hx,e⟩:=dw.mp h;refine .inr ⟨x,hx,?_⟩;subst e;unfold putAt;split<;>rfl
 .rcases ug.mp h with h|h
  .exact .inr ⟨y,h,rfl⟩
  .rw[qe]at h;subst h;exact .inl rfl
theorem ac9{h:jj}(hm:h.DictOfH (TK prog w) d xs)(kd:∀o,h.get? d=aj o->h'.get? d=aj o)(kx:∀x∈xs,∀o,h.get? x.2.1=aj o->h'.get? x.2.1=aj o):h'.DictOfH (TK prog w) d xs:=by
 obtain⟨o,es,ep,h1,h2,h3,h4,h5,h6⟩:=hm;exact⟨o,es,ep,kd _ h1,h2,h3,h4,λx hx=>ac8 (h5 x hx) (kx x hx),h6⟩
def ahO(prog:jo)(w:jf)(I d:bw)(h:jj)(v:aq)(x:List Key×bw×aq):Prop:=∃p o n,v=.ref p/\h.get? p=aj o/\o.cls=.type "tuple"/\o.data=.seq #[.ref x.2.1,x.2.2] n/\(TK prog w).is h x.1 x.2.1/\p≠I/\p≠d/\x.2.1≠I/\x.2.1≠d
theorem ahO.keep{h:jj}(q:ahO prog w I d h v x)(k:∀b o,b≠d->b≠I->h.get? b=aj o->h'.get? b=aj o):ahO prog w I d h' v x:=by
 obtain⟨p,o,n,e,h1,h2,h3,h4,h5,h6,h7,h8⟩:=q;exact⟨p,o,n,e,k _ _ h6 h5 h1,h2,h3,ac8 h4 λo e=>k _ _ h8 h7 e,h5,h6,h7,h8⟩
theorem avK(q:ahO prog w I d s.heap v x)(h:Q [.ref x.2.1,x.2.2] s):dg (fj prog w) A (Builtin.Dict.pairItems v) Q E s:=by
 obtain⟨p,o,n,rfl,h1,h2,h3,h4,_⟩:=q;unfold Builtin.Dict.pairItems;refine au (wpAny_typeOf (T:="tuple") ⟨o,h1,h2⟩ ?_);rw[if_pos (by decide)];refine au (a1l h1 h3 ?_);exact cj h
theorem avL(hh:A.handled=bh)(hu:A.units+1<jl)(hdI:d≠I)(hlI:l≠I)(cI:l≠d)(hlen:its.size=ps.length) :
  ∀(k i:Nat)(s:dh)(xs:List (List Key×bw×aq))(j:Int)(t:Tok),ps.length - i=k->i<=ps.length->s.heap.IsListIter I l i->s.heap.IsList l its->s.heap.DictOfH (TK prog w) d xs->xs.length+(ps.length - i)<=cu ->
   (∀x∈xs,x.2.1≠I)->(∀(i:Nat)(v:aq)(x:List Key×bw×aq),its[i]?=aj v->ps[i]?=aj x->ahO prog w I d s.heap v x) ->
   (∀h' tk,h'.DictOfH (TK prog w) d (aaB xs (ps.drop i))->(∀b o,b≠d->b≠I->s.heap.get? b=aj o->h'.get? b=aj o)->R (.ok (.ret .none)) {s with heap:=h',toks:=tk}) ->
   a0u (fj prog w) A (.builtin "dict.update.loop" ⟨[.ref d,.ref I,.int j t,.none],[]⟩) R s:=by
 intro k
 induction k with
 |zero =>
  intro i s xs j t hk hi hst hl hd hz hx hp hR;have hin:i=ps.length:=by omega
  refine a0y a0M ?_;rw[jr.under_plainId mH _];show dg _ A.in1 (a0c (.ref I) >>= _) _ _ s;have W:=Walks.list (prog:=prog) (w:=w) (A:=A.in1) hh I l hlI its;refine au (W.done s _ _ (by rw[hlen,←hin];exact⟨hst,hl⟩) λh' tk kk=>?_);have hd':h'.DictOfH (TK prog w) d xs:=ac9 hd (λo e=>kk _ _ (by simpa using hdI) e) λx m o e=>kk _ _ (by simpa using hx x m) e;show dg _ A.in1 (Builtin.Dict.addKeywords d [] >>= _) _ _ _;refine au (cj (cj ?_));refine hR h' tk (by rw[hin,List.drop_length];exact hd') λb o h1 h2 e=>kk b o (by simpa using h2) e
 |succ k ih =>
  intro i s xs j t hk hi hst hl hd hz hx hp hR;have hlt:i<ps.length:=by omega
  refine a0y a0M ?_;rw[jr.under_plainId mH _];show dg _ A.in1 (a0c (.ref I) >>= _) _ _ s;have W:=Walks.list (prog:=prog) (w:=w) (A:=A.in1) hh I l hlI its;refine au (W.item i s _ _ (by omega) ⟨hst,hl⟩ λv h' tk hP hst' kk=>?_);obtain⟨x,hxi⟩:∃x,ps[i]?=aj x:=⟨_,gV hlt⟩;have k1:∀b o,b≠d->b≠I->s.heap.get? b=aj o->h'.get? b=aj o:=λb o _ h2 e=>kk b o (by simpa using h2) e;have hp1:∀(i:Nat)(v:aq)(x:List Key×bw×aq),its[i]?=aj v->ps[i]?=aj x->ahO prog w I d h' v x:=λi v x e1 e2=>(hp i v x e1 e2).keep k1;have hd':h'.DictOfH (TK prog w) d xs:=ac9 hd (λo e=>kk _ _ (by simpa using hdI) e) λx m o e=>kk _ _ (by simpa using hx x m) e;have pv:=hp1 i v x hP hxi;obtain⟨p,o,n,_,_,_,_,hkey,_,_,h7,h8⟩:=id pv;refine au (qb (au (wpAny_tryCatch (avK (s:={s with heap:=h',toks:=tk}) pv ?_))));show dg _ A.in1 (holding [aq.ref x.2.1,x.2.2] (dictSet d (.ref x.2.1) x.2.2)) _ _ _;refine qb (wpAny_dictSet_heap (s:={s with heap:=h',toks:=tk}) (yd hu) hkey hd' (λh2 hd2 hs2=>?_) (by omega));have k2:∀b o,b≠d->b≠I->s.heap.get? b=aj o->h2.get? b=aj o:=λb o h1 hI e=>(hs2.2 b h1).trans (k1 b o h1 hI e);refine cj ⟨plainId_quiet mH _,ih (i+1) _ (a0i xs x.1 x.2.1 x.2.2) _ _ (by omega) hlt (hst'.1.at λo e=>(hs2.2 I (Ne.symm hdI)).trans e) (hst'.2.at λo e=>(hs2.2 l cI).trans e) hd2 (by have:=a3Y xs x.1 x.2.1 x.2.2;omega) (λy hy=>?_) (λi v x e1 e2=>(hp i v x e1 e2).keep k2) λh3 tk3 hd3 k3=>?_⟩
  .rcases aeP hy with e|⟨z,hz',e⟩
   .rw[e];exact h7
   .rw[e];exact hx z hz'
  .refine hR h3 tk3 ?_ λb o h1 hI e=>k3 b o h1 hI (k2 b o h1 hI e)
   have:ps.drop i=x::ps.drop (i+1):=by
    rw[a1w hlt];rw[gV hlt]at hxi;cases hxi;rfl
   rw[this];exact hd3
theorem avJ.ok{h:jj}(q:avJ prog w h v x)(hI:h.objs.size<=I)(hd:h.objs.size<=d)(k:∀b o,h.get? b=aj o->h'.get? b=aj o):ahO prog w I d h' v x:=by
 obtain⟨p,o,n,e,h1,h2,h3,h4⟩:=q;have l1:=gw h1
 have l2:x.2.1<h.objs.size:=by
  obtain⟨o2,its,n2,z,_⟩:=id h4;exact gw z
 exact⟨p,o,n,e,k _ _ h1,h2,h3,ac8 h4 λo e=>k _ _ e,jc (jm l1 hI),jc (jm l1 hd),jc (jm l2 hI),jc (jm l2 hd)⟩
theorem avN(hh:A.handled=bh)(hu:A.units+4<jl)(hl:s.heap.get? l=aj o)(hc:o.cls=.type "list")(hdat:o.data=.seq its n)(hdn:o.dict=bh)(hlen:its.size=ps.length)(hz:ps.length<=cu)
  (hp:∀(i:Nat)(v:aq)(x:List Key×bw×aq),its[i]?=aj v->ps[i]?=aj x->avJ prog w s.heap v x)
  (h:∀h' tk,h'.DictOfH (TK prog w) s.heap.objs.size (aaB [] ps)->(∀b o,s.heap.get? b=aj o->h'.get? b=aj o)->Q (.ref s.heap.objs.size) {s with heap:=h',toks:=tk}) :
  dg (fj prog w) A (call (.type "dict") [.ref l]) Q E s:=by
 refine callType_codes (Q₁:=λobj s₁=>obj=.ref s.heap.objs.size/\s₁={s with heap:=s.heap.push {cls:=.type "dict",data:=.dict #[]}}) F.kt_called_dict (F.kt_typeCall_dict_1 _) F.entry_dict_init (kt_code_dict_new _ ⟨rfl,rfl⟩) ?_;rintro obj s₁ ⟨rfl,rfl⟩;have kp:∀b o,s.heap.get? b=aj o->(s.heap.push {cls:=.type "dict",data:=.dict #[]}).get? b=aj o:=λb o e=>cg _ e;have hnew:(s.heap.push {cls:=.type "dict",data:=.dict #[]}).DictOfH (TK prog w) s.heap.objs.size []:=Heap.DictOfH.new s.heap;have hdl:l≠s.heap.objs.size:=jc (gw hl);refine⟨hnew.typeIs,F.args_dict_init_2 _ _,?_⟩;unfold Builtin.«dict.__init__»;refine au ?_;unfold Builtin.Dict.selfAndRest;refine au (wpAny_notOrdered_dict hnew.typeIs ?_);show dg _ _ (pure (s.heap.objs.size,[aq.ref l])) _ _ _;refine cj ?_;show dg _ _ (Builtin.Dict.updateFrom "dict.__init__" s.heap.objs.size (.ref l) [] .none) _ _ _;unfold Builtin.Dict.updateFrom;refine au (wpAny_typeOf (T:="list") ⟨o,kp _ _ hl,hc⟩ ?_);rw[if_pos (by decide)];refine au (ak0 (kp _ _ hl) hc hdat hdn hh λh' tk k1=>?_);rw[if_pos (by rfl)];refine au (zc ?_);have hl1:h'.IsList l its:=⟨o,k1 _ _ (kp _ _ hl),hc,n,hdat⟩;refine au (a2d (s:={s with heap:=h',toks:=tk}) hl1 ?_);have k2:∀b o,s.heap.get? b=aj o->(h'.push {cls:=.type "list_iterator",data:=.fields #[.ref l,a1k 0]}).get? b=aj o:=λb o e=>cg _ (k1 _ _ (kp _ _ e));have sz1:s.heap.objs.size<h'.objs.size:=gw (k1 s.heap.objs.size _ (ig _ rfl));refine cj ⟨plainId_quiet mH _,avL (A:=A.in1) (its:=its) (ps:=ps) hh (by show A.units+1+1<jl;omega) (jc sz1) (jc (gw hl1.choose_spec.1)) hdl hlen ps.length 0 _ [] _ _ rfl (vh _) ⟨_,ig _ rfl,rfl,rfl⟩ (hl1.at λo e=>cg _ e) (ac9 hnew (λo e=>cg _ (k1 _ _ e)) λx hx=>by simp at hx) (by simp;omega) (λx hx=>by simp at hx) (λi v x e1 e2=>(hp i v x e1 e2).ok (ux sz1) (dz _) k2) λh3 tk3 hd3 k3=>?_⟩;exact⟨rfl,h h3 tk3 hd3 λb o e=>k3 b o (jc (gw e)) (jc (Nat.lt_trans (gw e) sz1)) (k2 b o e)⟩
end
end
section
open PySem.W
noncomputable def pairD:D->Option (List Key×D)
 |.tup [.tup ds,z]=>(match a2J ds with
  |some ks=>aj (ks,z)
  |none=>bh)
 |_=>bh
noncomputable def vN:List D->Option (List (List Key×D))
 |[]=>aj []
 |d::r=>match pairD d,vN r with
  |some p,aj ps=>aj (p::ps)
  |_,_=>bh
noncomputable def a6Y(kvs:List (DK×D))(ps:List (List Key×D)):List (DK×D):=ps.foldl (λacc p=>bQ acc (.inr p.1) p.2) kvs
inductive Prs(K:Fg)(H:Hp):List (List Key×D)->List (List Key×bw×aq)->Prop where
 |nil:Prs K H [] []
 |cons {ks:List Key} {b:bw} {vz:V} {u:aq} {d:D} {kvs:List (List Key×D)} {ps:List (List Key×bw×aq)}:H b=aj (.tup (ks.map kV))->RD K H d vz->RelV vz u->Prs K H kvs ps->Prs K H ((ks,d)::kvs) ((ks,b,u)::ps)
theorem Prs.len{K:Fg}{kvs:List (List Key×D)}{ps:List (List Key×bw×aq)}(h:Prs K H kvs ps):kvs.length=ps.length:=by
 induction h with
 |nil=>rfl
 |cons _ _ _ _ ih=>simp[ih]
theorem amM(ps:List (List Key×bw×aq)):∀xs,(aaB xs ps).length<=xs.length+ps.length:=by
 induction ps with
 |nil=>intro xs;simp[aaB]
 |cons p r ih =>
  intro xs;have:=ih (a0i xs p.1 p.2.1 p.2.2);have:=a3Y xs p.1 p.2.1 p.2.2;simp only[aaB,a1x,lg]at *;omega
theorem Prs.fold{K:Fg}(h:Prs K H kvs ps):∀{k0:List (DK×D)}{y0:List (List Key×V)}{p0:List (List Key×bw×aq)},KT H y0 p0->qO K H .inr k0 y0->∃ys,KT H ys (aaB p0 ps)/\qO K H .inr (a6Y k0 kvs) ys:=by
 induction h with
 |nil=>intro k0 y0 p0 a b;exact⟨y0,a,b⟩
 |@cons ks b vz u d kvs ps e rd rv _ ih =>
  intro k0 y0 p0 a c;exact ih (KT.put a ks e rv) (a0I jO rd c)
section
variable{X:Cx}
set_option tactic.hygienic true in
theorem apT{pins:List (bw×Obj)}{s:dh}(I:Inv X pins σ H s):∀{ds:List D}{zs:List V}{its:List aq}{kvs:List (List Key×D)},bW X.K H ds zs->Vals zs its->vN ds=aj kvs ->
  ∃ps,Prs X.K H kvs ps/\its.length=ps.length/\∀(i:Nat)(v:aq)(x:List Key×bw×aq),its[i]?=aj v->ps[i]?=aj x->avJ X.prog X.w s.heap v x
 |_,_,_,_,.nil,.nil,e=>by cases e;exact⟨[],.nil,rfl,λi v x e=>by simp at e⟩
 |d::ds,z::zs,u::its,kvs,.cons r rs,.cons v vs,e=>by
  unfold vN at e;split at e
  .rename_i p ps' e1 e2;cases e;obtain⟨ps,hp,hl,hq⟩:=apT I rs vs e2;unfold pairD at e1;split at e1
   .rename_i ds' z';split at e1
    .rename_i ks e3;cases e1;cases r with
     |@tup a xs _ sq rr _ =>
     obtain rfl:u=aq.ref a:=v;cases rr with
     |cons r1 rr =>
     cases rr with
     |@cons _ vz _ _ r2 rr =>
     cases rr;cases r1 with
     |@tup b ys _ sb rb eb =>
     have:=a6S rb e3;subst this;obtain⟨i2,vi,⟨o,h1,h2,n,h3⟩,_⟩:=I.tuple sq;cases vi with
     |cons va vi =>
     cases vi with
     |@cons _ uz _ _ vb vi =>
     cases vi;cases va;refine⟨(ks,b,uz)::ps,.cons eb r2 vb hp,by simp[hl],λi v x e1 e2=>?_⟩;cases i with
     |zero =>
      simp at e1 e2;subst e1 e2;exact⟨a,o,n,rfl,h1,h2,by simpa using h3,sY I.hok eb⟩
     |succ i=>exact hq i v x (by simpa using e1) (by simpa using e2)
    .cases e1
   .cases e1
  .cases e
noncomputable def pQ:List D->Gp->fZ->Prop:=λxs G R=>match xs with
 |[.ref a]=>(match aY G a with
  |some ds=>(match vN ds with
   |some kvs=>∀r,G r=bh->R (.ref r) (aH G r (.bC ak (a6Y [] kvs)))
   |none=>False)
  |none=>False)
 |_=>False
set_option tactic.hygienic true in
theorem avO(hc:X.calm=ak)(hu:X.A.units+64<jl):d8 X (.type "dict") pQ:=by
 intro pins s σ H xs vs us G R Q I rx rv g q k;unfold pQ at q;split at q
 .rename_i a;split at q
  .rename_i ds e1;split at q
   .rename_i kvs e2;cases rx with
    |cons r1 rr =>
    cases rr;cases r1;cases rv with
    |cons rv rr =>
    cases rr;cases rv;obtain⟨zs,hq,r⟩:=bU g e1;obtain⟨its,vi,⟨o,n,h1,h2,h3,h4⟩,hz⟩:=I.list hq;obtain⟨ps,hp,hl,hat⟩:=apT I r vi e2;have hpz:ps.length<=cu:=by rw[←hl,←vi.length];exact hz
    refine avN (I.ok.hd hc) (by omega) h1 h2 h4 h3 (by simpa using hl) hpz (λi v x e1 e2=>hat i v x (by simpa using e1) e2) λh' tk hd kk=>?_;obtain⟨ys,kt,tw⟩:=hp.fold (k0:=[]) (y0:=[]) (p0:=[]) .nil .nil;have fr:H s.heap.objs.size=bh:=I.hok.fresh (dz _);have sn:Same H (upd H s.heap.objs.size (.dT ys)):=bG fr;obtain⟨q0,es,ep,g1,g2,g3,g4,_,g5⟩:=hd;have hys:ys.length<=cu:=by rw[Paired.length kt];have:=amM ps [];simp at this;omega
    have J:Inv X pins σ (upd H s.heap.objs.size (.dT ys)) {s with heap:=h',toks:=tk}:=I.laid (t':=tk) (o:=.dT ys) kk (dz _) ⟨hys,(by have:=I.big;simp;exact a0e this),_,kt.keeps λb zs e=>sn _ _ e,q0,es,ep,g1,g2,g3,g4,g5⟩;exact⟨.ref s.heap.objs.size,_,J,rfl,k _ _ (.ref _) _ (.same sn) (.ref _) (g.put (u:=.bC ak _) fr (.inr ⟨rfl,ys,aK,tw.imp λ_ _ z=>⟨z.1,z.2.mono (.same sn)⟩⟩)) (q _ (gH g fr (nG J)))⟩
   .exact q.elim
  .exact q.elim
 .exact q.elim
theorem a2O{K:Fg}:∀(ks:List Key),bW K H (ks.map kD) (ks.map kV)
 |[]=>.nil
 |.inl i::r=>.cons (.int i) (a2O r)
 |.inr x::r=>.cons (.str x) (a2O r)
theorem aeQ{K:Fg}:∀{kvs:List (DK×D)}{ys:List (List Key×V)}{ws:List (List Key×bw×aq)},qO K H .inr kvs ys->KT H ys ws->bW K H (kvs.map λp=>dkD p.1) (ws.map λx=>.ref x.2.1)
 |_,_,_,.nil,.nil=>.nil
 |p::kvs,q::ys,x::ws,.cons h r,.cons h' r'=>by
  refine .cons ?_ (aeQ r r');show RD K H (dkD p.1) (.ref x.2.1);rw[h.1];have e:=h'.2.1;exact .tup (yK.of e) (a2O _) (am8 e)
end
end
section
noncomputable abbrev acA(X:Cx)(i:Nat)(nm:Str):Cx:={X with N:=X.N.set i nm}
section
variable{X:Cx}{pins:List (bw×Obj)}{s:dh}{i:Nat}{nm:Str}
theorem aCK(ok:X.Ok):(acA X i nm).Ok:=⟨ok.mod,ok.kind,ok.glob,ok.blt,ok.above,ok.inj,ok.has,ok.cab,ok.hd,ok.frames,ok.stk,ok.exf,ok.bs,ok.bsz,ok.abC,ok.adK,ok.uT,ok.frf⟩
theorem aCL(ok:(acA X i nm).Ok):X.Ok:=⟨ok.mod,ok.kind,ok.glob,ok.blt,ok.above,ok.inj,ok.has,ok.cab,ok.hd,ok.frames,ok.stk,ok.exf,ok.bs,ok.bsz,ok.abC,ok.adK,ok.uT,ok.frf⟩
theorem apU(I:Inv X pins σ H s):Inv (acA X i nm) pins (zF σ i) H s :=
 ⟨aCK I.ok,I.os,I.bare,I.base,let⟨m,hn,hl⟩:=I.loc;⟨m,hn,λj x v e1 e2 e3=>by
  obtain⟨n,e4⟩:=a6I σ i j v e2;have e1':(X.N.set i nm)[j]?=aj x:=e1;rw[vf (Ne.symm n)]at e1';exact hl j x v e1' e4 e3⟩,I.cell,I.free,I.nF,I.pin,I.hok,by rw[a6H,I.len];simp,I.hnd,I.tup⟩
theorem rH(I:Inv (acA X i nm) pins σ H s):Inv X pins (zF σ i) H s :=
 ⟨aCL I.ok,I.os,I.bare,I.base,let⟨m,hn,hl⟩:=I.loc;⟨m,hn,λj x v e1 e2 e3=>by
  obtain⟨n,e4⟩:=a6I σ i j v e2;exact hl j x v (by show(X.N.set i nm)[j]?=aj x;rw[vf (Ne.symm n)];exact e1) e4 e3⟩,I.cell,I.free,I.nF,I.pin,I.hok,by rw[a6H,I.len];simp,I.hnd,I.tup⟩
end
noncomputable def aIK(F:cP)(i:Nat):cP:={nx:=λρ G=>F.nx (tG ρ i) G,rt:=F.rt,bk:=λρ G=>F.bk (tG ρ i) G,ct:=λρ G=>F.ct (tG ρ i) G}
noncomputable def ak1(i:Nat)(t:bK):bK:=λF ρ G=>t (aIK F i) (tG ρ i) G
variable{i:Nat}
set_option tactic.hygienic true in
theorem aCM{X:Cx}{nm:Str}{st:qp}{t:bK}(h:PS3 (acA X i nm) st t):PS3 X st (ak1 i t):=by
 intro pins s σ H F I q;obtain⟨ρ,G,E,sr,g,q,u⟩:=q;refine cR (h pins s (zF σ i) H {nx:=λσ H=>F.nx (zF σ i) H,rt:=F.rt,bk:=λσ H=>F.bk (zF σ i) H,ct:=λσ H=>F.ct (zF σ i) H} (apU I) ⟨tG ρ i,G,aIK E i,sr.clr i,g,q,⟨λρ G σ H' a b c=>u.nx _ _ _ _ (a.clr i) b c,u.rt,λρ G σ H' a b c=>u.bk _ _ _ _ (a.clr i) b c,λρ G σ H' a b c=>u.ct _ _ _ _ (a.clr i) b c⟩⟩) λf s' z=>?_;cases f with
 |next=>obtain⟨σ',H',I',z⟩:=z;exact⟨_,H',rH I',z⟩
 |brk=>obtain⟨σ',H',I',z⟩:=z;exact⟨_,H',rH I',z⟩
 |cont=>obtain⟨σ',H',I',z⟩:=z;exact⟨_,H',rH I',z⟩
 |ret v=>obtain⟨v,σ',H',I',r,z⟩:=z;exact⟨v,_,H',rH I',r,z⟩
theorem apV{nm:Str}(c:Cat X EX):Cat (acA X i nm) (λρ=>EX (tG ρ i)):=⟨λpins σ H s ρ e s' I sr q=>c.aa1 pins _ H s _ e s' (rH I) (sr.clr i) q⟩
theorem apW{nm:Str}(c:Thr X EX):Thr (acA X i nm) (λρ=>EX (tG ρ i)):=⟨λpins σ H s ρ C e us h' I sr m q=>c.made pins _ H s _ C e us h' (rH I) (sr.clr i) m q⟩
theorem a6Z{nm:Str}:∀{N:List Str}{i:Nat},N.Nodup->nm∉N->(N.set i nm).Nodup
 |[],_,h,_=>h
 |x::r,0,h,n=>by
  rw[qy]at h;show(nm::r).Nodup;rw[qy];exact⟨λz=>n (.tail _ z),h.2⟩
 |x::r,i+1,h,n=>by
  rw[qy]at h;show(x::r.set i nm).Nodup;rw[qy];refine⟨λz=>?_,a6Z h.2 λz=>n (.tail _ z)⟩;rcases List.mem_or_eq_of_mem_set z with z|z
  .exact h.1 z
  .exact n (z ▸ .head _)
end
variable{h1:jj}
section
open PySem.W
variable{vs:List aq}
section
variable{prog:jo}{w:jf}{A:jr}{s:dh}
theorem ak2{h:jj}(e:h.get? b=aj u):(sortedHeap (h.push (kj "list" vs.toArray 0)) h.objs.size vs out).get? b=aj u:=by
 have n0:b≠h.objs.size:=jc (gw e);unfold sortedHeap;rw[(jz.update _ _ _).2 b n0];refine cg _ (cg _ ?_);rw[(jz.update _ _ _).2 b n0];exact cg _ e
theorem apY{h:jj}:∃c,(sortedHeap (h.push (kj "list" vs.toArray 0)) h.objs.size vs out).get? h.objs.size=aj (kj "list" out c):=by
 have oL:(h.push (kj "list" vs.toArray 0)).get? h.objs.size=aj (kj "list" vs.toArray 0):=ig _ rfl;unfold sortedHeap;obtain⟨c1,e1⟩:∃c,((h.push (kj "list" vs.toArray 0)).update h.objs.size (Obj.mapSeq λ_=>#[])).get? h.objs.size=aj (kj "list" #[] c):=⟨_,a1u oL λ_=>#[]⟩;exact⟨_,a1u (cg _ (cg _ e1)) λ_=>out⟩
theorem avP{kf:Nat->Int} 
  (aCN:∀(R:List aq->dh->Prop)(E:aq->dh->Prop),(∀h' tk,(∀b o,s.heap.get? b=aj o->h'.get? b=aj o)->R vs {s with heap:=h',toks:=tk})->dg (fj prog w) A.in1 (collect (.ref r)) R E s)
  (h64:vs.length<64)(hd:∀i j,i<vs.length->j<vs.length->kf i=kf j->i=j)
  (hk:2<=vs.length->∀(s':dh)(h':jj),(∀b o,s.heap.get? b=aj o->h'.get? b=aj o)->aeN prog w A.in1.in1 s' kf vs h')
  (h:∀(q:Array Nat)(h1:jj)(tk:Nat)(h':jj)(c:Nat),Pm vs.length q->Up kf q vs.length->(∀b o,s.heap.get? b=aj o->h1.get? b=aj o)->(∀b o,h1.get? b=aj o->h'.get? b=aj o)->h'.get? h1.objs.size=aj (kj "list" (q.toList.map λi=>vs.getD i aq.none).toArray c)->Q (.ref h1.objs.size) {s with heap:=h',toks:=tk}):dg (fj prog w) A (call (.builtin "sorted") [.ref r]) Q E s:=by
 have big:1000<cu:=by decide
 refine Calls.call_function_entry kind_sorted plain_sorted entry_sorted (args_sorted1 _) ?_;unfold Builtin.«sorted»;refine au (m:=checkCount "sorted" 1 1 _) (cj (au (aCN _ _ λh1 tk k1=>au (wpAny_newList ?_ (by omega)))));have oL:(h1.push (kj "list" vs.toArray 0)).get? h1.objs.size=aj (kj "list" vs.toArray 0):=ig _ rfl;have kp:∀b o,s.heap.get? b=aj o->(h1.push (kj "list" vs.toArray 0)).get? b=aj o:=λb o e=>cg _ (k1 b o e);refine au (qb (wj (s:={s with heap:=h1.push (kj "list" vs.toArray 0),toks:=tk}) slot_list_sort ⟨_,oL,rfl⟩ entry_list_sort (a6W (kf:=kf) (s:={s with heap:=h1.push (kj "list" vs.toArray 0),toks:=tk}) oL h64 hd (λl2 h' k'=>?_) λq P u=>⟨_,rfl,cj ⟨_,rfl,?_⟩⟩) (args_list_sort _)))
 .exact hk l2 _ h' λb o e=>k' b o (jc (gw (k1 b o e))) (kp b o e)
 .obtain⟨c,hc⟩:=apY (h:=h1) (vs:=vs) (out:=(q.toList.map λi=>vs.getD i aq.none).toArray);exact h q h1 tk _ c P u k1 (λb o e=>ak2 e) hc
end
variable{ps:List (Int×Int)}{M:Int}
section
variable{X:Cx}
theorem aeR{σ:St}{H:Hp}(I:Inv X pins σ H s){G:Gp}{R:fZ}{Q:VK}(g:HR X.K H G){xs:List V}{us:List aq}(r:bW X.K H (ps.map cY) xs)(rv:Vals xs us)(nd:ps.Nodup)(h64:ps.length<64)(hM:2*B<M)(hB:∀p∈ps,-B<=p.2/\p.2<=B)
  (k:∀v H' d G',Ts H H'->RD X.K H' d v->HR X.K H' G'->R d G'->Q v H')(h:∀qs:List (Int×Int),qs.Perm ps->dG qs->∀r,G r=bh->R (.ref r) (aH G r (.lst (qs.map cY))))(P:Pm us.length q)(u:Up (λi=>enc M (ps.getD i (0,0))) q us.length){c:Nat}(k1:∀b o,s.heap.get? b=aj o->h1.get? b=aj o)(k2:∀b o,h1.get? b=aj o->h'.get? b=aj o)(ho:h'.get? h1.objs.size=aj (kj "list" (q.toList.map λi=>us.getD i aq.none).toArray c)):EP X pins σ Q (.ref h1.objs.size) {s with heap:=h',toks:=tk}:=by
 have big:1000<cu:=by decide
 have l1:us.length=ps.length:=by rw[←rv.length,←r.length,dj]
 have l2:xs.length=ps.length:=by rw[←r.length,dj]
 rw[l1]at P u;obtain⟨p1,p2⟩:=a2N hM hB nd P u;have hin:∀i∈q.toList,i<ps.length:=λi hi=>xg.mp (P.perm.mem_iff.mp hi);have I1:Inv X pins σ H {s with heap:=h1,toks:=tk}:=I.kept (t':=tk) k1;have fr:H h1.objs.size=bh:=I1.hok.fresh (dz _);have sn:Same H (upd H h1.objs.size (.lst (q.toList.map λi=>xs.getD i .non))):=bG fr
 have J:Inv X pins σ (upd H h1.objs.size (.lst (q.toList.map λi=>xs.getD i .non))) {s with heap:=h',toks:=tk} :=
  I1.laid (t':=tk) (λb o e=>k2 b o e) (dz _) ⟨by rw[dj,vo,P.size];omega,_,c,xF rv λi hi=>by rw[l2];exact hin i hi,ho⟩
 have kf:=nG J;exact⟨.ref h1.objs.size,_,J,rfl,k _ _ (.ref _) _ (.same sn) (.ref _) (g.put (u:=.lst _) fr ⟨_,aK,(a6X r hin).mono (.same sn)⟩) (h _ p1 p2 _ (gH g fr kf))⟩
theorem ak3(nd:ps.Nodup)(hM:2*B<M)(hB:∀p∈ps,-B<=p.2/\p.2<=B):∀i j,i<ps.length->j<ps.length->enc M (ps.getD i (0,0))=enc M (ps.getD j (0,0))->i=j:=λi j hi hj e'=>by
 have mi:ps.getD i (0,0)∈ps:=by simp[qz,hi]
 have mj:ps.getD j (0,0)∈ps:=by simp[qz,hj]
 have k1:=qQ hM (hB _ mi) (hB _ mj);have k2:=qQ hM (hB _ mj) (hB _ mi)
 have ee:ps.getD i (0,0)=ps.getD j (0,0):=by
  have n1:¬ pI (ps.getD i (0,0)) (ps.getD j (0,0)):=λw=>absurd (k1.mpr w) (by omega);have n2:¬ pI (ps.getD j (0,0)) (ps.getD i (0,0)):=λw=>absurd (k2.mpr w) (by omega);unfold pI at n1 n2;exact Prod.ext (by omega) (by omega)
 have e2:ps[i]=ps[j]:=by simpa[qz,hi,hj]using ee
 have key:=yc.mp nd;rcases zm i j with w|w|w
 .exact absurd e2 (key _ _ hi hj w)
 .exact w
 .exact absurd e2.symm (key _ _ hj hi w)
theorem avQ(I:Inv X pins σ H s)(e:H a=aj (.dT ys)):∃(es:Array yj)(ep:Nat)(ws:List (List Key×bw×aq)),(a==nj)=ao/\nH s.heap a es ep/\es.size<=cu/\KT H ys ws/\∀acc:Array aq,ItemsOf (λi v=>∃e,es[i]?=aj e/\v=e.key) acc es.size->acc.toList=ws.map λx=>aq.ref x.2.1:=by
 obtain⟨z1,hd,ws,rel,o,es,ep,ho,hcl,hdat,he,his,hn⟩:=adO I.hok e;have lw:es.size=ws.length:=size_of_entries he;have lw2:ws.length=ys.length:=(Paired.length rel).symm;refine⟨es,ep,ws,hd,⟨o,ho,hcl,hdat⟩,by omega,rel,λacc hacc=>?_⟩;apply List.ext_getElem?;intro i;by_cases hi:i<ws.length
 .have hi2:i<acc.size:=by rw[hacc.1,lw];exact hi
  obtain⟨en,e1,e2⟩:=hacc.2 i acc[i] (a1v hi2);have e3:es.toList[i]?=aj en:=by rw[a0k];exact e1
  rw[he,vp,gV hi]at e3;have e4:entryOfKey (a0d (aF X.prog X.w)) ws[i]=en:=by simpa using e3
  rw[a0k,a1v hi2,e2,←e4,vp,gV hi];rfl
 .rw[a1n (by rw[vo,hacc.1,lw];omega),a1n (by simp;omega)]
theorem aaC:∀l:List (List Key×bw×aq),Vals (l.map λx=>V.ref x.2.1) (l.map λx=>aq.ref x.2.1)
 |[]=>.nil
 |_::r=>.cons rfl (aaC r)
noncomputable def nP:List D->Gp->fZ->Prop:=λxs G R=>match xs with
 |[.ref a]=>(match G a with
  |some (.bC ak kvs)=>ayX (kvs.map λp=>dkD p.1) G R
  |_=>False)
 |_=>False
set_option tactic.hygienic true in
theorem avR(hc:X.calm=ak):d8 X (.builtin "sorted") nP:=by
 intro pins s σ H xs vs us G R Q I rx rv g q k;unfold nP at q;split at q
 .rename_i a;split at q
  .rename_i kvs e1;obtain⟨ps,ep,nd,h64,h⟩:=q;cases rx with
   |cons r1 rr =>
   cases rr;cases r1;cases rv with
   |cons rv rr =>
   cases rr;cases rv;rcases g a _ e1 with⟨z,_⟩|⟨_,ys,e,r⟩
   .cases z
   .obtain⟨es,epo,ws,hsm,raw,hz,rel,hall⟩:=avQ I e;have rds:=aeQ r rel;rw[ep]at rds;have vi:=aaC ws;obtain⟨B,b0,hB⟩:=a0K ps;have hp:=pairs_at I rds vi;have hM:2*B<2*B+1:=by omega
    refine avP (kf:=λi=>enc (2*B+1) (ps.getD i (0,0))) (vs:=ws.map λx=>aq.ref x.2.1) (λR' E' hR=>kdu_collect (aCI hsm) (I.ok.hd hc) raw hz λh' tk acc kk hacc=>?_) (by rw[hp.1];exact h64) (λi j hi hj e=>?_) (λl2 s' h' kp=>a2M hM hB l2 ⟨hp.1,λi p ei=>?_⟩) λq h1 tk h' c P u k1 k2 ho=>aeR I g rds vi nd h64 hM hB k h P u k1 k2 ho
    .rw[hall acc hacc];exact hR h' tk kk
    .rw[hp.1]at hi hj;exact ak3 nd hM hB i j hi hj e
    .obtain⟨a,o,n,x,y,z1,z2,z3,z4⟩:=hp.2 i p ei;exact⟨a,o,n,x,y,z1,kp _ _ z2,z3,z4⟩
  .exact q.elim
 .exact q.elim
end
end
section
open Builtin.Str
section
end
section
noncomputable def aKH:RM3:=λx xs G R=>match x,xs with
 |.str a,[.str b]=>(b.length==0)=ao/\a.length+2<=cu/\(Txt.split a b).length<=cu/\∀q,G q=bh->R (.ref q) (aH G q (.lst ((Txt.split a b).map D.str)))
 |_,_=>False
noncomputable def az0:List D->Gp->fZ->Prop:=λxs G R=>match xs with
 |[.int i]=>i.natAbs.log2<1920/\R (.str (toString i)) G
 |[.str z]=>R (.str z) G
 |_=>False
theorem acB:uX X (.type "str") (λxs H Q=>(∃i,xs=[.int i]/\i.natAbs.log2<1920/\Q (.str (toString i)) H)∨∃z,xs=[.str z]/\Q (.str z) H):=by
 intro pins s σ H xs us Q I r h;rcases h with⟨i,rfl,hz,q⟩|⟨z,rfl,q⟩
 .obtain⟨u,rfl,t,rfl⟩:=vals1 r;exact PySem.P.str_of_int hz ⟨.str _,H,I.tok _,⟨_,rfl⟩,q⟩
 .obtain⟨u,rfl,t,rfl⟩:=vals1 r;exact PySem.P.str_of_str ⟨.str _,H,I,⟨_,rfl⟩,q⟩
theorem aIL:d8 X (.type "str") az0:=d8.of acB λH xs vs G R Q rx g q k=>by
 cases rx with
 |nil=>exact False.elim q
 |cons r rr =>
  cases rr with
  |cons _ _=>cases r<;>exact False.elim q
  |nil =>
   cases r with
   |int i=>exact .inl ⟨i,rfl,q.1,λ_=>k _ H _ G (.refl H) (.str _) g q.2⟩
   |str z=>exact .inr ⟨z,rfl,λ_=>k _ H _ G (.refl H) (.str _) g q⟩
   |_=>exact False.elim q
noncomputable def ak4:List D->Gp->fZ->Prop:=λxs G R=>match xs with
 |[.ref q]=>(match aY G q with
  |some ds=>R (.tup ds) G
  |none=>False)
 |_=>False
set_option tactic.hygienic true in
theorem avS:d8 X (.type "tuple") ak4:=d8.of a90 λH xs vs G R Q rx g q k=>by
 cases rx with
 |nil=>exact False.elim q
 |cons r rr =>
  cases rr with
  |cons _ _=>cases r<;>exact False.elim q
  |nil =>
   cases r with
   |ref a =>
    have q':(match aY G a with
     |some ds=>R (.tup ds) G
     |none=>False):=q
    split at q'
    .rename_i ds e1;obtain⟨xs,h1,r1⟩:=bU g e1;refine⟨a,xs,rfl,.inl ⟨h1,λl hl kf=>?_⟩⟩;have sn:Same H (upd H l (.tup xs)):=bG hl;exact k _ _ _ _ (.same sn) (.tup (yK.of aK) (r1.mono (.same sn)) (am8 aK)) (g.same sn) q'
    .exact q'.elim
   |_=>exact False.elim q
end
end
section
section
end
end
section
open PySem.W
variable{x:Key×aq}
section
variable{prog:jo}{w:jf}{A:jr}{s:dh}
noncomputable def aaD(xs ps:List (Key×aq)):List (Key×aq):=ps.foldl (λacc x=>stored acc x.1 x.2) xs
theorem acC{h:jj}(hm:h.DictOf (aF prog w) d xs)(k:∀o,h.get? d=aj o->h'.get? d=aj o):h'.DictOf (aF prog w) d xs:=by
 obtain⟨o,es,ep,h1,r⟩:=hm;exact⟨o,es,ep,k _ h1,r⟩
def apZ(prog:jo)(w:jf)(I d:bw)(h:jj)(v:aq)(x:Key×aq):Prop:=∃p o n key,v=.ref p/\h.get? p=aj o/\o.cls=.type "tuple"/\o.data=.seq #[key,x.2] n/\(aF prog w).is x.1 key=ak/\p≠I/\p≠d
theorem apZ.keep{h:jj}(q:apZ prog w I d h v x)(k:∀b o,b≠d->b≠I->h.get? b=aj o->h'.get? b=aj o):apZ prog w I d h' v x:=by
 obtain⟨p,o,n,key,e,h1,h2,h3,h4,h5,h6⟩:=q;exact⟨p,o,n,key,e,k _ _ h6 h5 h1,h2,h3,h4,h5,h6⟩
variable{ps:List (Key×aq)}
theorem aq0(hh:A.handled=bh)(hdI:d≠I)(hlI:l≠I)(cI:l≠d)(hlen:its.size=ps.length) :
  ∀(k i:Nat)(s:dh)(xs:List (Key×aq))(j:Int)(t:Tok),ps.length - i=k->i<=ps.length->s.heap.IsListIter I l i->s.heap.IsList l its->s.heap.DictOf (aF prog w) d xs->xs.length+(ps.length - i)<=cu ->
   (∀(i:Nat)(v:aq)(x:Key×aq),its[i]?=aj v->ps[i]?=aj x->apZ prog w I d s.heap v x) ->
   (∀h' tk,h'.DictOf (aF prog w) d (aaD xs (ps.drop i))->(∀b o,b≠d->b≠I->s.heap.get? b=aj o->h'.get? b=aj o)->R (.ok (.ret .none)) {s with heap:=h',toks:=tk}) ->
   a0u (fj prog w) A (.builtin "dict.update.loop" ⟨[.ref d,.ref I,.int j t,.none],[]⟩) R s:=by
 intro k
 induction k with
 |zero =>
  intro i s xs j t hk hi hst hl hd hz hp hR;have hin:i=ps.length:=by omega
  refine a0y a0M ?_;rw[jr.under_plainId mH _];show dg _ A.in1 (a0c (.ref I) >>= _) _ _ s;have W:=Walks.list (prog:=prog) (w:=w) (A:=A.in1) hh I l hlI its;refine au (W.done s _ _ (by rw[hlen,←hin];exact⟨hst,hl⟩) λh' tk kk=>?_);have hd':h'.DictOf (aF prog w) d xs:=acC hd (λo e=>kk _ _ (by simpa using hdI) e);show dg _ A.in1 (Builtin.Dict.addKeywords d [] >>= _) _ _ _;refine au (cj (cj ?_));refine hR h' tk (by rw[hin,List.drop_length];exact hd') λb o h1 h2 e=>kk b o (by simpa using h2) e
 |succ k ih =>
  intro i s xs j t hk hi hst hl hd hz hp hR;have hlt:i<ps.length:=by omega
  refine a0y a0M ?_;rw[jr.under_plainId mH _];show dg _ A.in1 (a0c (.ref I) >>= _) _ _ s;have W:=Walks.list (prog:=prog) (w:=w) (A:=A.in1) hh I l hlI its;refine au (W.item i s _ _ (by omega) ⟨hst,hl⟩ λv h' tk hP hst' kk=>?_);obtain⟨x,hxi⟩:∃x,ps[i]?=aj x:=⟨_,gV hlt⟩;have k1:∀b o,b≠d->b≠I->s.heap.get? b=aj o->h'.get? b=aj o:=λb o _ h2 e=>kk b o (by simpa using h2) e;have hd':h'.DictOf (aF prog w) d xs:=acC hd (λo e=>kk _ _ (by simpa using hdI) e);obtain⟨p,o,n,key,rfl,q1,q2,q3,hkey,_,_⟩:=(hp i v x hP hxi).keep k1;refine au (qb (au (wpAny_tryCatch ?_)));unfold Builtin.Dict.pairItems;refine au (wpAny_typeOf (s:={s with heap:=h',toks:=tk}) (T:="tuple") ⟨o,q1,q2⟩ ?_);rw[if_pos (by decide)];refine au (a1l (s:={s with heap:=h',toks:=tk}) q1 q3 (cj ?_));show dg _ A.in1 (holding [key,x.2] (dictSet d key x.2)) _ _ _;refine qb (wpAny_dictSet_pairs (s:={s with heap:=h',toks:=tk}) hkey hd' (λh2 hd2 hs2=>?_) (by omega));have k2:∀b o,b≠d->b≠I->s.heap.get? b=aj o->h2.get? b=aj o:=λb o h1 hI e=>(hs2.2 b h1).trans (k1 b o h1 hI e);refine cj ⟨plainId_quiet mH _,ih (i+1) _ (stored xs x.1 x.2) _ _ (by omega) hlt (hst'.1.at λo e=>(hs2.2 I (Ne.symm hdI)).trans e) (hst'.2.at λo e=>(hs2.2 l cI).trans e) hd2 (by have:=stored_length_le xs x.1 x.2;omega) (λi v x e1 e2=>(hp i v x e1 e2).keep k2) λh3 tk3 hd3 k3=>?_⟩;refine hR h3 tk3 ?_ λb o h1 hI e=>k3 b o h1 hI (k2 b o h1 hI e)
  have:ps.drop i=x::ps.drop (i+1):=by
   rw[a1w hlt];rw[gV hlt]at hxi;cases hxi;rfl
  rw[this];exact hd3
def avT(prog:jo)(w:jf)(h:jj)(v:aq)(x:Key×aq):Prop:=∃p o n key,v=.ref p/\h.get? p=aj o/\o.cls=.type "tuple"/\o.data=.seq #[key,x.2] n/\(aF prog w).is x.1 key=ak
theorem avT.ok{h:jj}(q:avT prog w h v x)(hI:h.objs.size<=I)(hd:h.objs.size<=d)(k:∀b o,h.get? b=aj o->h'.get? b=aj o):apZ prog w I d h' v x:=by
 obtain⟨p,o,n,key,e,h1,h2,h3,h4⟩:=q;have l1:=gw h1;exact⟨p,o,n,key,e,k _ _ h1,h2,h3,h4,jc (jm l1 hI),jc (jm l1 hd)⟩
theorem aq1{o:Obj}(hh:A.handled=bh)(hl:s.heap.get? l=aj o)(hc:o.cls=.type "list")(hdat:o.data=.seq its n)(hdn:o.dict=bh)(hlen:its.size=ps.length)(hz:ps.length<=cu)
  (hp:∀(i:Nat)(v:aq)(x:Key×aq),its[i]?=aj v->ps[i]?=aj x->avT prog w s.heap v x)
  (h:∀h' tk,h'.DictOf (aF prog w) s.heap.objs.size (aaD [] ps)->(∀b o,s.heap.get? b=aj o->h'.get? b=aj o)->Q (.ref s.heap.objs.size) {s with heap:=h',toks:=tk}) :
  dg (fj prog w) A (call (.type "dict") [.ref l]) Q E s:=by
 refine callType_codes (Q₁:=λobj s₁=>obj=.ref s.heap.objs.size/\s₁={s with heap:=s.heap.push {cls:=.type "dict",data:=.dict #[]}}) F.kt_called_dict (F.kt_typeCall_dict_1 _) F.entry_dict_init (kt_code_dict_new _ ⟨rfl,rfl⟩) ?_;rintro obj s₁ ⟨rfl,rfl⟩;have kp:∀b o,s.heap.get? b=aj o->(s.heap.push {cls:=.type "dict",data:=.dict #[]}).get? b=aj o:=λb o e=>cg _ e;have hnew:(s.heap.push {cls:=.type "dict",data:=.dict #[]}).DictOf (aF prog w) s.heap.objs.size []:=Heap.DictOf.new s.heap;have hdl:l≠s.heap.objs.size:=jc (gw hl);refine⟨hnew.typeIs,F.args_dict_init_2 _ _,?_⟩;unfold Builtin.«dict.__init__»;refine au ?_;unfold Builtin.Dict.selfAndRest;refine au (wpAny_notOrdered_dict hnew.typeIs ?_);show dg _ _ (pure (s.heap.objs.size,[aq.ref l])) _ _ _;refine cj ?_;show dg _ _ (Builtin.Dict.updateFrom "dict.__init__" s.heap.objs.size (.ref l) [] .none) _ _ _;unfold Builtin.Dict.updateFrom;refine au (wpAny_typeOf (T:="list") ⟨o,kp _ _ hl,hc⟩ ?_);rw[if_pos (by decide)];refine au (ak0 (kp _ _ hl) hc hdat hdn hh λh' tk k1=>?_);rw[if_pos (by rfl)];refine au (zc ?_);have hl1:h'.IsList l its:=⟨o,k1 _ _ (kp _ _ hl),hc,n,hdat⟩;refine au (a2d (s:={s with heap:=h',toks:=tk}) hl1 ?_);have k2:∀b o,s.heap.get? b=aj o->(h'.push {cls:=.type "list_iterator",data:=.fields #[.ref l,a1k 0]}).get? b=aj o:=λb o e=>cg _ (k1 _ _ (kp _ _ e));have sz1:s.heap.objs.size<h'.objs.size:=gw (k1 s.heap.objs.size _ (ig _ rfl));refine cj ⟨plainId_quiet mH _,aq0 (A:=A.in1) (its:=its) (ps:=ps) hh (jc sz1) (jc (gw hl1.choose_spec.1)) hdl hlen ps.length 0 _ [] _ _ rfl (vh _) ⟨_,ig _ rfl,rfl,rfl⟩ (hl1.at λo e=>cg _ e) (acC hnew (λo e=>cg _ (k1 _ _ e))) (by simp;omega) (λi v x e1 e2=>(hp i v x e1 e2).ok (ux sz1) (dz _) k2) λh3 tk3 hd3 k3=>?_⟩;exact⟨rfl,h h3 tk3 hd3 λb o e=>k3 b o (jc (gw e)) (jc (Nat.lt_trans (gw e) sz1)) (k2 b o e)⟩
end
noncomputable def az1:D->Option (Key×D)
 |.tup [y,z]=>(match apK y with
  |some k=>aj (k,z)
  |none=>bh)
 |_=>bh
noncomputable def a2P:List D->Option (List (Key×D))
 |[]=>aj []
 |d::r=>match az1 d,a2P r with
  |some p,aj ps=>aj (p::ps)
  |_,_=>bh
noncomputable def a70(kvs:List (DK×D))(ps:List (Key×D)):List (DK×D):=ps.foldl (λacc p=>bQ acc (.inl p.1) p.2) kvs
inductive amN(K:Fg)(H:Hp):List (Key×D)->List (Key×aq)->Prop where
 |nil:amN K H [] []
 |cons {k:Key} {vz:V} {u:aq} {d:D} {kvs:List (Key×D)} {ps:List (Key×aq)}:RD K H d vz->RelV vz u->amN K H kvs ps->amN K H ((k,d)::kvs) ((k,u)::ps)
theorem amO(ps:List (Key×aq)):∀xs,(aaD xs ps).length<=xs.length+ps.length:=by
 induction ps with
 |nil=>intro xs;simp[aaD]
 |cons p r ih =>
  intro xs;have:=ih (stored xs p.1 p.2);have:=stored_length_le xs p.1 p.2;simp only[aaD,a1x,lg]at *;omega
theorem amN.fold{K:Fg}(h:amN K H kvs ps):∀{k0:List (DK×D)}{y0:List (Key×V)}{p0:List (Key×aq)},KV y0 p0->qO K H .inl k0 y0->∃ys,KV ys (aaD p0 ps)/\qO K H .inl (a70 k0 kvs) ys:=by
 induction h with
 |nil=>intro k0 y0 p0 a b;exact⟨y0,a,b⟩
 |@cons k vz u d kvs ps rd rv _ ih =>
  intro k0 y0 p0 a c;exact ih (KV.put a k rv) (a0I m7 rd c)
section
variable{X:Cx}
set_option tactic.hygienic true in
theorem ak5{pins:List (bw×Obj)}{s:dh}(I:Inv X pins σ H s):∀{ds:List D}{zs:List V}{its:List aq}{kvs:List (Key×D)},bW X.K H ds zs->Vals zs its->a2P ds=aj kvs ->
  ∃ps,amN X.K H kvs ps/\its.length=ps.length/\∀(i:Nat)(v:aq)(x:Key×aq),its[i]?=aj v->ps[i]?=aj x->avT X.prog X.w s.heap v x
 |_,_,_,_,.nil,.nil,e=>by cases e;exact⟨[],.nil,rfl,λi v x e=>by simp at e⟩
 |d::ds,z::zs,u::its,kvs,.cons r rs,.cons v vs,e=>by
  unfold a2P at e;split at e
  .rename_i p ps' e1 e2;cases e;obtain⟨ps,hp,hl,hq⟩:=ak5 I rs vs e2;unfold az1 at e1;split at e1
   .rename_i y z';split at e1
    .rename_i k e3;cases e1;cases r with
     |@tup a xs _ sq rr _ =>
     obtain rfl:u=aq.ref a:=v;cases rr with
     |cons r1 rr =>
     cases rr with
     |@cons _ vz _ _ r2 rr =>
     cases rr;have ek:=ajV r1 e3;subst ek;obtain⟨i2,vi,⟨o,h1,h2,n,h3⟩,_⟩:=I.tuple sq;cases vi with
     |@cons _ uk _ _ va vi =>
     cases vi with
     |@cons _ uz _ _ vb vi =>
     cases vi;refine⟨(k,uz)::ps,.cons r2 vb hp,by simp[hl],λi v x e1 e2=>?_⟩;cases i with
     |zero =>
      simp at e1 e2;subst e1 e2;exact⟨a,o,n,uk,rfl,h1,h2,by simpa using h3,a0A va⟩
     |succ i=>exact hq i v x (by simpa using e1) (by simpa using e2)
    .cases e1
   .cases e1
  .cases e
noncomputable def tM:List D->Gp->fZ->Prop:=λxs G R=>match xs with
 |[.ref a]=>(match aY G a with
  |some ds=>(match a2P ds with
   |some kvs=>∀r,G r=bh->R (.ref r) (aH G r (.bC ao (a70 [] kvs)))
   |none=>False)
  |none=>False)
 |_=>False
set_option tactic.hygienic true in
theorem avU(hc:X.calm=ak):d8 X (.type "dict") tM:=by
 intro pins s σ H xs vs us G R Q I rx rv g q k;unfold tM at q;split at q
 .rename_i a;split at q
  .rename_i ds e1;split at q
   .rename_i kvs e2;cases rx with
    |cons r1 rr =>
    cases rr;cases r1;cases rv with
    |cons rv rr =>
    cases rr;cases rv;obtain⟨zs,hq,r⟩:=bU g e1;obtain⟨its,vi,⟨o,n,h1,h2,h3,h4⟩,hz⟩:=I.list hq;obtain⟨ps,hp,hl,hat⟩:=ak5 I r vi e2;have hpz:ps.length<=cu:=by rw[←hl,←vi.length];exact hz
    refine aq1 (I.ok.hd hc) h1 h2 h4 h3 (by simpa using hl) hpz (λi v x e1 e2=>hat i v x (by simpa using e1) e2) λh' tk hd kk=>?_;obtain⟨ys,kt,tw⟩:=hp.fold (k0:=[]) (y0:=[]) (p0:=[]) .nil .nil;have fr:H s.heap.objs.size=bh:=I.hok.fresh (dz _);have sn:Same H (upd H s.heap.objs.size (.dK ys)):=bG fr;have hys:ys.length<=cu:=by rw[KV.length kt];have:=amO ps [];simp at this;omega
    have J:Inv X pins σ (upd H s.heap.objs.size (.dK ys)) {s with heap:=h',toks:=tk}:=I.laid (t':=tk) (o:=.dK ys) kk (dz _) ⟨hys,(by have:=I.big;simp;exact a0e this),_,kt,hd⟩;exact⟨.ref s.heap.objs.size,_,J,rfl,k _ _ (.ref _) _ (.same sn) (.ref _) (g.put (u:=.bC ao _) fr (.inl ⟨rfl,ys,aK,tw.imp λ_ _ z=>⟨z.1,z.2.mono (.same sn)⟩⟩)) (q _ (gH g fr (nG J)))⟩
   .exact q.elim
  .exact q.elim
 .exact q.elim
end
end
section
open PySem.W
section
end
section
end
end
variable{us:Nat->List aq}{as:List bw}
section
open PySem.W
variable{r:bw}
section
variable{prog:jo}{w:jf}{A:jr}{E:aq->dh->Prop}{s:dh}
theorem aq2{CV:List aq->jj->Prop}{Q:aq->dh->Prop}
  (aCN:∀(R:List aq->dh->Prop)(E:aq->dh->Prop),(∀vs h' tk,(∀b o,s.heap.get? b=aj o->h'.get? b=aj o)->CV vs h'->R vs {s with heap:=h',toks:=tk})->dg (fj prog w) A.in1 (collect (.ref r)) R E s)
  (hm:∀vs h1 tk,(∀b o,s.heap.get? b=aj o->h1.get? b=aj o)->CV vs h1->vs.length<64/\∃kf:Nat->Int,(∀i j,i<vs.length->j<vs.length->kf i=kf j->i=j) /\
   (2<=vs.length->∀(s':dh)(h':jj),(∀b o,h1.get? b=aj o->h'.get? b=aj o)->aeN prog w A.in1.in1 s' kf vs h') /\
   ∀(q:Array Nat)(h':jj)(c:Nat),Pm vs.length q->Up kf q vs.length->(∀b o,h1.get? b=aj o->h'.get? b=aj o)->h'.get? h1.objs.size=aj (kj "list" (q.toList.map λi=>vs.getD i aq.none).toArray c)->Q (.ref h1.objs.size) {s with heap:=h',toks:=tk}):dg (fj prog w) A (call (.builtin "sorted") [.ref r]) Q E s:=by
 have big:1000<cu:=by decide
 refine Calls.call_function_entry kind_sorted plain_sorted entry_sorted (args_sorted1 _) ?_;unfold Builtin.«sorted»;refine au (m:=checkCount "sorted" 1 1 _) (cj (au (aCN _ _ λvs h1 tk k1 cv=>?_)));obtain⟨h64,kf,hd,hk,h⟩:=hm vs h1 tk k1 cv;refine au (wpAny_newList ?_ (by omega));have oL:(h1.push (kj "list" vs.toArray 0)).get? h1.objs.size=aj (kj "list" vs.toArray 0):=ig _ rfl;refine au (qb (wj (s:={s with heap:=h1.push (kj "list" vs.toArray 0),toks:=tk}) slot_list_sort ⟨_,oL,rfl⟩ entry_list_sort (a6W (kf:=kf) (s:={s with heap:=h1.push (kj "list" vs.toArray 0),toks:=tk}) oL h64 hd (λl2 h' k'=>?_) λq P u=>⟨_,rfl,cj ⟨_,rfl,?_⟩⟩) (args_list_sort _)))
 .exact hk l2 _ h' λb o e=>k' b o (jc (gw e)) (cg _ e)
 .obtain⟨c,hc⟩:=apY (h:=h1) (vs:=vs) (out:=(q.toList.map λi=>vs.getD i aq.none).toArray);exact h q _ c P u (λb o e=>ak2 e) hc
end
section
variable{X:Cx}
theorem Inv.grown(I:Inv X pins σ H s)(k:∀b u,s.heap.get? b=aj u->h'.get? b=aj u)(hs:Same H H')(hn:∀b u,H' b=aj u->H b=aj u∨(s.heap.objs.size<=b/\dW X.prog X.w H' h' b u)):Inv X pins σ H' {s with heap:=h',toks:=t' }:=by
 refine I.un ⟨λb ob q _ _ _=>k b ob q,λb ob q _ _ _=>⟨ob.slots,k b ob q⟩,λb ob q n _=>?_,λb ob q _=>⟨ob,k b ob q⟩,λb xs q=>hs _ _ q,λb o u q=>hs _ _ q,λb ps q=>⟨#[],by rw[hs _ _ q];simp⟩⟩ λa o e=>?_
 .cases z:H' b with
  |none=>rfl
  |some u =>
   rcases hn b u z with w|⟨w,_⟩
   .rw[n]at w;cases w
   .exact absurd (gw q) (Nat.not_lt.mpr w)
 .rcases hn a o e with w|⟨_,w⟩
  .exact(I.hok a o w).stay (λc v _ q=>k c v q) (λc q=>hs _ _ q) λc xs q=>hs _ _ q
  .exact w
variable{σ:St}
theorem amP{H:Hp}(I:Inv X pins σ H s)(k:∀b u,s.heap.get? b=aj u->h1.get? b=aj u){ys:Nat->List V}(nd:as.Nodup)(hi:∀a∈as,s.heap.objs.size<=a)
  (ht:∀j a,as[j]?=aj a->Vals (ys j) (us j)/\(ys j).length<=cu/\IsTup h1 a (us j).toArray):∃H1,Inv X pins σ H1 {s with heap:=h1,toks:=tk}/\Same H H1/\∀j a,as[j]?=aj a->H1 a=aj (.tup (ys j)):=by
 have fr:∀a∈as,H a=bh:=λa ha=>I.hok.fresh (hi a ha)
 let H1:Hp:=λb=>if b∈as then aj (.tup (ys (as.idxOf b)))else H b
 have sm:Same H H1:=λb o e=>by
  show(if b∈as then _ else _)=_;rw[if_neg]
  .exact e
  .intro z;rw[fr b z]at e;cases e
 have at1:∀j a,as[j]?=aj a->H1 a=aj (.tup (ys j)):=λj a e=>by
  obtain⟨hj,e2⟩:=ji.mp e;show(if a∈as then _ else _)=_;rw[if_pos (jx e),←e2,nd.idxOf_getElem]
 refine⟨H1,I.grown k sm λb u e=>?_,sm,at1⟩;by_cases z:b∈as
 .right;refine⟨hi b z,?_⟩;obtain⟨j,hj⟩:=List.mem_iff_getElem?.mp z;have e3:=at1 j b hj;rw[e3]at e;cases e;obtain⟨t1,t2,t3⟩:=ht j b hj;exact⟨t2,us j,t1,t3⟩
 .left;have e':(if b∈as then aj (.tup (ys (as.idxOf b)))else H b)=aj u:=e;rw[if_neg z]at e';exact e'
noncomputable def jJ(p:Int×Int):DK×D:=(.inl (.inl p.1),.int p.2)
theorem a71{K:Fg}:∀{ps:List (Int×Int)}{ys:List (Key×V)},qO K H .inl (ps.map jJ) ys->ys=ps.map λp=>(.inl p.1,.int p.2)
 |[],_,.nil=>rfl
 |p::ps,y::ys,.cons h r=>by
  obtain⟨k,v⟩:=y;obtain⟨h1,h2⟩:=h
  have e1:(Sum.inl p.1:Key)=k:=by
   have:(Sum.inl (Sum.inl p.1):DK)=.inl k:=h1;exact m7 _ _ this
  cases h2;rw[a71 r,←e1];rfl
theorem a0N:∀{ps:List (Int×Int)}{vs:List (Key×aq)},KV (ps.map λp=>((.inl p.1:Key),V.int p.2)) vs->vs.length=ps.length/\vs.map (·.1)=ps.map (λp=>(.inl p.1:Key))/\∀(j:Nat)(p:Int×Int),ps[j]?=aj p->∃t,vs[j]?=aj (.inl p.1,aq.int p.2 t)
 |[],_,.nil=>⟨rfl,rfl,λj p e=>by simp at e⟩
 |p::ps,v::vs,.cons h r=>by
  obtain⟨a1,a2,a3⟩:=a0N r;obtain⟨k,u⟩:=v;obtain⟨h1,t,h2⟩:=h;cases h1;cases h2;refine⟨by simp[a1],by simp[a2],λj q e=>?_⟩;cases j with
  |zero=>simp at e;subst e;exact⟨t,rfl⟩
  |succ j=>exact a3 j q (by simpa using e)
theorem a72{K:Fg}:∀{ps:List (Int×Int)}{as:List bw},as.length=ps.length->(∀(j:Nat)(a:bw)(p:Int×Int),as[j]?=aj a->ps[j]?=aj p->H a=aj (.tup [.int p.1,.int p.2]))->bW K H (ps.map cY) (as.map V.ref)
 |[],[],_,_=>.nil
 |p::ps,a::as,hl,h=>by
  have e:=h 0 a p rfl rfl;exact .cons (.tup (.inl (.of e)) (.cons (.int _) (.cons (.int _) .nil)) (am8 e)) (a72 (by simpa using hl) λj b q e1 e2=>h (j+1) b q (by simpa using e1) (by simpa using e2))
theorem acD:∀as:List bw,Vals (as.map V.ref) (as.map aq.ref)
 |[]=>.nil
 |_::r=>.cons rfl (acD r)
theorem ahP{H:Hp}{G:Gp}{R:fZ}{Q:VK}(hc:X.calm=ak)(I:Inv X pins σ H s)(g:HR X.K H G){ps:List (Int×Int)}(e:G a=aj (.bC ao (ps.map jJ)))(h64:ps.length<64)(hv:s.heap.IsItemsView r a)
  (h:∀qs:List (Int×Int),qs.Perm ps->dG qs->∀r,G r=bh->R (.ref r) (aH G r (.lst (qs.map cY))))(k:∀v H' d G',Ts H H'->RD X.K H' d v->HR X.K H' G'->R d G'->Q v H'):dg (fj X.prog X.w) X.A (call (.builtin "sorted") [.ref r]) (EP X pins σ Q) X.xe s:=by
 have big:1000<cu:=by decide
 rcases g a _ e with⟨_,ys,e1,tw⟩|⟨z,_⟩
 .have ey:=a71 tw;subst ey;obtain⟨z1,hsm,vs,kv,hd⟩:=a3V I.hok e1;obtain⟨l1,l2,l3⟩:=a0N kv;obtain⟨o,es,ep,q1,q2,q3,q4,q5,q6⟩:=hd;have hat:s.heap.DictAt (aF X.prog X.w) a vs ep:=⟨o,es,q1,q2,q3,q4,q5,q6⟩;have nk:(ps.map λp=>(.inl p.1:Key)).Nodup:=by rw[←l2];exact q6
  have nd:ps.Nodup:=(zp.mp nk).imp λh z=>h (by rw[z]);refine aq2 (CV:=λus h'=>∃as:List bw,us=as.map aq.ref/\as.length=ps.length/\KdxG (aF X.prog X.w) vs s.heap.objs.size h' as) (λR' E' hR=>kdx_collect (I.ok.hd hc) hv hat (by omega) λh' tk as kk hl hG=>hR _ h' tk kk ⟨as,rfl,hl.trans l1,hG⟩) λus h1 tk k1 cv=>?_;obtain⟨as,rfl,hl,hG⟩:=cv
  have ex:∀j:Nat,∃uu:List aq,∀b,as[j]?=aj b->Vals [V.int (ps.getD j (0,0)).1,V.int (ps.getD j (0,0)).2] uu/\IsTup h1 b uu.toArray:=λj=>by
   cases ea:as[j]? with
   |none=>exact⟨[],λb z=>by cases z⟩
   |some b =>
    obtain⟨key,kk,x,p1,p2,p3⟩:=hG.pairs j b ea;have hj:j<ps.length:=by rw[←hl];exact(ji.mp ea).1
    obtain⟨t,p4⟩:=l3 j ps[j] (gV hj);rw[p4]at p1;cases p1;have gd:ps.getD j (0,0)=ps[j]:=getD_at hj;refine⟨[key,aq.int ps[j].2 t],λb' z=>?_⟩;cases z;rw[gd];refine⟨.cons ?_ (.cons ⟨t,rfl⟩ .nil),⟨_,p3,rfl,_,rfl⟩⟩;rcases cG (show a07 (Sum.inl ps[j].1) key=ak from p2)with⟨i,t',e1,e2⟩|⟨i,t',e1,e2⟩
    .cases e1;exact⟨t',e2⟩
    .cases e1
  obtain⟨us,hus⟩:=Classical.axiomOfChoice ex;obtain⟨H1,I1,sm,at1⟩:=amP (tk:=tk) I k1 (as:=as) (ys:=λj=>[V.int (ps.getD j (0,0)).1,V.int (ps.getD j (0,0)).2]) (us:=us) (hG.rise.imp jc) (λb hb=>ux (hG.above b hb)) λj b e=>⟨(hus j b e).1,by show 2<=cu;omega,(hus j b e).2⟩
  have rds:bW X.K H1 (ps.map cY) (as.map V.ref):=a72 hl λj b p e1 e2=>by
   have z:=at1 j b e1;obtain⟨hj,e3⟩:=ji.mp e2;rw[getD_at hj,e3]at z;exact z
  have vi:=acD as;obtain⟨B,b0,hB⟩:=a0K ps;have hp:=pairs_at I1 rds vi;have hM:2*B<2*B+1:=by omega
  have g1:HR X.K H1 G:=g.same sm;refine⟨by rw[hp.1];exact h64,λi=>enc (2*B+1) (ps.getD i (0,0)),λi j hi hj e=>?_,λl2 s' h' kp=>a2M hM hB l2 ⟨hp.1,λi p ei=>?_⟩,λq h' c P u k2 ho=>?_⟩
  .rw[hp.1]at hi hj;exact ak3 nd hM hB i j hi hj e
  .obtain⟨a,o,n,x,y,z1,z2,z3,z4⟩:=hp.2 i p ei;exact⟨a,o,n,x,y,z1,kp _ _ z2,z3,z4⟩
  .exact aeR (s:={s with heap:=h1,toks:=tk}) (h1:=h1) (tk:=tk) I1 g1 rds vi nd h64 hM hB (λv H' d G' t=>k v H' d G' ((Ts.same sm).trans t)) h P u (λ_ _ z=>z) k2 ho
 .cases z
def pR(x:D)(G:Gp)(R:fZ):Prop:=match x with
 |.ref a=>(match G a with
  |some (.bC ao kvs)=>∃ps:List (Int×Int),kvs=ps.map jJ/\ps.length<64/\∀qs:List (Int×Int),qs.Perm ps->dG qs->∀r,G r=bh->R (.ref r) (aH G r (.lst (qs.map cY)))
  |_=>False)
 |_=>False
set_option tactic.hygienic true in
theorem ahQ(h:pR x G R):∃a,∃ps:List (Int×Int),x=.ref a/\G a=aj (.bC ao (ps.map jJ))/\ps.length<64/\∀qs:List (Int×Int),qs.Perm ps->dG qs->∀r,G r=bh->R (.ref r) (aH G r (.lst (qs.map cY))):=by
 unfold pR at h;split at h
 .split at h
  .rename_i e;obtain⟨ps,rfl,h1,h2⟩:=h;exact⟨_,ps,rfl,e,h1,h2⟩
  .exact h.elim
 .exact h.elim
noncomputable def a0O(to:bV):bV:=λρ G R=>to ρ G λx G1=>pR x G1 R
theorem ak6{K:Fg}(g:HR K H G)(e:G a=aj (.bC ao kvs)):IsD H a:=by
 rcases g a _ e with⟨_,ys,e1,_⟩|⟨z,_⟩
 .exact .inl ⟨ys,.of e1⟩
 .cases z
theorem avV{x:Str}{apos cpos p:Pos}(hc:X.calm=ak)(ho:bY X o to)(hg:Gl X x)(hm:X.mg x=bh)(hv:ni x=aj (.builtin "sorted"))(hn:x≠"__name__")(hdb:(x==("__debug__":Str))=ao)
  (hbase:uh o "items" X.env (eval o X.env)=eval o X.env)(hline:(apos.endLine==cpos.line)=ak) :
  bY X (.Call (.Name x p) [.Call (.Attribute o "items" apos) [] [] cpos] [] pos) (a0O to):=by
 intro pins s σ H Q I h;obtain⟨ρ,G,R,sr,g,q,kk⟩:=h;refine wg (zA I hg hm hv ?_ hn hdb);refine PyProof.Rows.callWith_builtin1 (Calls.spliced_cons ?_);refine zx hbase hline (cR (ho pins s σ H (λvx H1=>Ts H H1/\∃x G1,RD X.K H1 x vx/\HR X.K H1 G1/\pR x G1 R) I ⟨ρ,G,_,sr,g,q,λv H1 x G1 t1 r1 g1 q1=>⟨t1,x,G1,r1,g1,q1⟩⟩) ?_);rintro v s1 ⟨vx,H1,I1,r1,t1,x1,G1,rx,g1,q1⟩;obtain⟨a,ps,rfl,e1,h64,hq⟩:=ahQ q1;cases rx;obtain rfl:v=aq.ref a:=r1;obtain⟨h1,h2,h3⟩:=a2A I1 (ak6 g1 e1);refine⟨"dict","dict.items",PySem.F.plainAttrs_dict,PySem.F.slot_dict_items,PySem.F.type_dict_items,h1,h2,Calls.callWith_builtin rfl (PySem.evalArgs_none ?_)⟩;rcases g1 a _ e1 with⟨_,ys,e2,tw⟩|⟨z,_⟩
 .obtain⟨z1,hsm,vs,kv,hd⟩:=a3V I1.hok e2;refine call_meetsIn PySem.F.slot_dict_items h1 PySem.F.entry_dict_items (PySem.F.args_dict_items_1 _) (meets_dict_items (aF X.prog X.w) a hsm) ⟨⟨vs,hd⟩,?_⟩;refine Calls.spliced_nil ?_;have I2:Inv X pins σ H1 {s1 with heap:=s1.heap.push {cls:=.type "dict_items",data:=.fields #[.ref a]},toks:=s1.toks}:=I1.kept λb o e=>cg _ e;exact ahP (s:={s1 with heap:=s1.heap.push {cls:=.type "dict_items",data:=.fields #[.ref a]}}) hc I2 g1 e1 h64 ⟨_,ig _ rfl,rfl,rfl⟩ hq λv H' d G' t=>kk v H' d G' (t1.trans t)
 .cases z
theorem aeS:∀l:List Int,preSum (λi=>l.getD i 0) l.length=l.sum
 |[]=>rfl
 |x::l=>by
  rw[lg,kdu_shift,List.sum_cons,←aeS l];rfl
def vO(x:D)(G:Gp)(R:fZ):Prop:=match x with
 |.ref a=>(match G a with
  |some (.bC ao kvs)=>∃ps:List (Int×Int),kvs=ps.map jJ/\R (.int (ps.map (·.2)).sum) G
  |_=>False)
 |_=>False
set_option tactic.hygienic true in
theorem amQ(h:vO x G R):∃a,∃ps:List (Int×Int),x=.ref a/\G a=aj (.bC ao (ps.map jJ))/\R (.int (ps.map (·.2)).sum) G:=by
 unfold vO at h;split at h
 .split at h
  .rename_i e;obtain⟨ps,rfl,h1⟩:=h;exact⟨_,ps,rfl,e,h1⟩
  .exact h.elim
 .exact h.elim
noncomputable def acE(to:bV):bV:=λρ G R=>to ρ G λx G1=>vO x G1 R
theorem aCO{x:Str}{apos cpos p:Pos}(hc:X.calm=ak)(ho:bY X o to)(hg:Gl X x)(hm:X.mg x=bh)(hv:ni x=aj (.builtin "sum"))(hn:x≠"__name__")(hdb:(x==("__debug__":Str))=ao)
  (hbase:uh o "values" X.env (eval o X.env)=eval o X.env)(hline:(apos.endLine==cpos.line)=ak) :
  bY X (.Call (.Name x p) [.Call (.Attribute o "values" apos) [] [] cpos] [] pos) (acE to):=by
 intro pins s σ H Q I h;obtain⟨ρ,G,R,sr,g,q,kk⟩:=h;refine wg (zA I hg hm hv ?_ hn hdb);refine PyProof.Rows.callWith_builtin1 (Calls.spliced_cons ?_);refine zx hbase hline (cR (ho pins s σ H (λvx H1=>Ts H H1/\∃x G1,RD X.K H1 x vx/\HR X.K H1 G1/\vO x G1 R) I ⟨ρ,G,_,sr,g,q,λv H1 x G1 t1 r1 g1 q1=>⟨t1,x,G1,r1,g1,q1⟩⟩) ?_);rintro v s1 ⟨vx,H1,I1,r1,t1,x1,G1,rx,g1,q1⟩;obtain⟨a,ps,rfl,e1,hq⟩:=amQ q1;cases rx;obtain rfl:v=aq.ref a:=r1;obtain⟨h1,h2,h3⟩:=a2A I1 (ak6 g1 e1);refine⟨"dict","dict.values",PySem.F.plainAttrs_dict,PySem.F.slot_dict_values,PySem.F.type_dict_values,h1,h2,Calls.callWith_builtin rfl (PySem.evalArgs_none ?_)⟩;rcases g1 a _ e1 with⟨_,ys,e2,tw⟩|⟨z,_⟩
 .have ey:=a71 tw;subst ey;obtain⟨z1,hsm,vs,kv,hd⟩:=a3V I1.hok e2;obtain⟨l1,l2,l3⟩:=a0N kv;refine call_meetsIn PySem.F.slot_dict_values h1 PySem.F.entry_dict_values (PySem.F.args_dict_values_1 _) (meets_dict_values (aF X.prog X.w) a hsm) ⟨⟨vs,hd⟩,?_⟩;refine Calls.spliced_nil ?_;obtain⟨o,es,ep,q1,q2,q3,q4,q5,q6⟩:=hd
  let oV:Obj:={cls:=.type "dict_values",data:=.fields #[.ref a]}
  have hat:(s1.heap.push oV).DictAt (aF X.prog X.w) a vs ep:=⟨o,es,cg _ q1,q2,q3,q4,q5,q6⟩;have hvw:(s1.heap.push oV).IsValuesView s1.heap.objs.size a:=⟨_,ig _ rfl,rfl,rfl⟩;refine call_sum_walkAnyS ?_;have KS:=kdl_values (prog:=X.prog) (w:=X.w) (knd:=aF X.prog X.w) (r:=s1.heap.objs.size) (d:=a) (kvs:=vs) (ep:=ep);obtain⟨oI,St,hit,W,st⟩:=KS.iter X.A.in1 {s1 with heap:=s1.heap.push oV} (I1.ok.hd hc) ⟨hvw,hat⟩;refine hit _ _ ⟨(s1.heap.push oV).objs.size,_,_,_,vs.length,_,_,(λi=>(ps.map (·.2)).getD i 0),rfl,W.toS,st,λb hb=>?_,?_,λs' t' hm=>?_⟩
  .show b<((s1.heap.push oV).push oI).objs.size;rw[size_push'];rcases je.mp hb with e|hb
   .rw[e];exact Nat.lt_succ_self _
   .rw[qe.mp hb];exact a1g (KS.there _ ⟨hvw,hat⟩).2
  .intro i v hP;obtain⟨k,hk⟩:=hP;have hi:i<ps.length:=by rw[←l1];exact(ji.mp hk).1
   obtain⟨t,p4⟩:=l3 i ps[i] (gV hi);rw[p4]at hk;cases hk;refine⟨t,?_⟩;have:(ps.map (·.2)).getD i 0=ps[i].2:=by simp[qz,hi]
   show aq.int ps[i].2 t=aq.int ((ps.map (·.2)).getD i 0) t;rw[this]
  .have hk:∀b o,s1.heap.get? b=aj o->s'.heap.get? b=aj o:=λb o e =>
    hm.heap b o (λhI=>absurd (gw e) (by have z:=qe.mp hI;rw[z];show ¬ (s1.heap.push oV).objs.size<_;rw[size_push'];exact Nat.not_lt.mpr (a1e _))) (cg _ (cg _ e))
   rw[Moved.eq_with hm];have e5:vs.length=(ps.map (·.2)).length:=by rw[dj,l1]
   rw[e5,aeS];exact⟨.int _,H1,I1.kept hk,⟨t',rfl⟩,kk _ H1 _ G1 t1 (.int _) g1 hq⟩
 .cases z
end
end
section
open PySem.W
variable{ps:List (Int×Int)}
section
variable{prog:jo}{w:jf}{A:jr}{E:aq->dh->Prop}{s:dh}
def avW(prog:jo)(w:jf)(A:jr)(s:dh)(x y:aq)(b:Bool):Prop:=∀(E:aq->dh->Prop)(Q:Bool->dh->Prop),Q b s->dg (fj prog w) A (eqBool x y) Q E s
noncomputable def eqM(ps qs:List (Int×Int)):Bool:=ps.length==qs.length&&ps.all λp=>aJ qs p.1==aj p.2
theorem ak7{i:Int}:∀qs:List (Int×Int),uU (qs.map λp=>((.inl p.1:Key),V.int p.2)) (.inl i)=(aJ qs i).map V.int
 |[]=>rfl
 |q::qs=>by
  rw[iy];by_cases c:q.1=i
  .rw[uY (by rw[c])];show _=(if q.1=i then aj q.2 else aJ qs i).map V.int;rw[if_pos c];rfl
  .rw[uZ (λz=>c (by simpa using z)),ak7 qs];show _=(if q.1=i then aj q.2 else aJ qs i).map V.int;rw[if_neg c]
theorem a5N{qs:List (Int×Int)}(hb:KV (qs.map λp=>((.inl p.1:Key),V.int p.2)) kb):∀{ps:List (Int×Int)}{ka:List (Key×aq)},KV (ps.map λp=>((.inl p.1:Key),V.int p.2)) ka->KeqHits A s kb ka (ps.all λp=>aJ qs p.1==aj p.2)
 |[],_,.nil=>.nil
 |p::ps,v::ka,.cons h r=>by
  obtain⟨k,u⟩:=v;obtain⟨h1,t,h2⟩:=h;cases h1;cases h2;have ih:=a5N hb r;have vl:=KV.val hb (.inl p.1);rw[ak7]at vl;rw[yt];cases e:aJ qs p.1 with
  |none =>
   rw[e]at vl
   have e2:valueAt kb (.inl p.1)=bh:=by
    cases z:valueAt kb (.inl p.1)with
    |none=>rfl
    |some y=>rw[z]at vl;exact vl.elim
   exact .miss e2
  |some y =>
   rw[e]at vl;cases z:valueAt kb (.inl p.1)with
   |none=>rw[z]at vl;exact vl.elim
   |some u =>
    rw[z]at vl;obtain⟨t',e3⟩:∃t',u=aq.int y t':=vl;subst e3
    have eb:((aj y:Option Int)==aj p.2)=(p.2==y):=by
     show(y==p.2)=_;exact a2n.mpr ⟨λz=>beq_iff_eq.mpr (beq_iff_eq.mp z).symm,λz=>beq_iff_eq.mpr (beq_iff_eq.mp z).symm⟩
    rw[eb];exact .hit z ((MeetsSeq.EqGives.int _ _ _ _).at _ _) ih
theorem ak8{qs:List (Int×Int)}(ha:(a==nj)=ao)(hb:(b==nj)=ao)(da:s.heap.DictOf (aF prog w) a ka)(db:s.heap.DictOf (aF prog w) b kb)(va:KV (ps.map λp=>((.inl p.1:Key),V.int p.2)) ka)(vb:KV (qs.map λp=>((.inl p.1:Key),V.int p.2)) kb)(hu:A.units<jl)(sm:a=b->eqM ps qs=ak):avW prog w A s (.ref a) (.ref b) (eqM ps qs):=by
 intro E Q hq;unfold eqBool;refine qb ?_;show dg _ _ (if(aq.ref a==aq.ref b)=ak then _ else _) Q E s;by_cases c:(aq.ref a==aq.ref b)=ak
 .rw[if_pos c];have e:a=b:=by have:=eq_of_beq c;injection this
  rw[sm e]at hq;exact au (zc (cj hq))
 .rw[if_neg c];refine au (show dg _ _ (jd .Eq (.ref a) (.ref b)) _ _ _ from keq_eq ha hb da db hu (λ_=>a5N vb va) ?_);have l1:=(a0N va).1;have l2:=(a0N vb).1;rw[l1,l2];exact uo hq
section
variable{κ:Type}[DecidableEq κ]{knd:HeapKind prog w κ}
inductive uG(prog:jo)(w:jf)(A:jr)(s:dh)(xb:List (κ×bw×aq)):List (κ×bw×aq)->Bool->Prop
 |nil:uG prog w A s xb [] ak
 |miss {k:κ} {p:bw×aq} {r:List (κ×bw×aq)}:atKey xb k=bh->uG prog w A s xb ((k,p)::r) ao
 |hit {k:κ} {p q:bw×aq} {r:List (κ×bw×aq)} {e b:Bool}:atKey xb k=aj q->avW prog w A s p.2 q.2 e->uG prog w A s xb r b->uG prog w A s xb ((k,p)::r) (e&&b)
theorem uG.inv{k:κ}{p:bw×aq}{b:Bool}(h:uG prog w A s xb ((k,p)::r) b) :
  (atKey xb k=bh/\b=ao)∨∃q e b',atKey xb k=aj q/\avW prog w A s p.2 q.2 e/\uG prog w A s xb r b'/\b=(e&&b'):=by
 cases h with
 |miss z=>exact .inl ⟨z,rfl⟩
 |hit z y x=>exact .inr ⟨_,_,_,z,y,x,rfl⟩
variable{r:Bool}
set_option tactic.hygienic true in
theorem aeT{nm:String}{xa xb:List (κ×bw×aq)}(na:(a==nj)=ao)(nb:(b==nj)=ao)(da:s.heap.DictOfH knd a xa)(db:s.heap.DictOfH knd b xb)(hu:knd.room A)
  (hits:xa.length=xb.length->uG prog w A s xb xa r)(h:Q (xa.length==xb.length&&r) s):dg (fj prog w) A (Builtin.Dict.samePairs nm a b) Q E s:=by
 obtain⟨o1,es,ep,g1,_,g3,g4,g5,g6⟩:=da;obtain⟨o2,fs,fp,f1,_,f3,f4,f5,f6⟩:=db;have la:xa.length=es.size:=(size_of_entries g4).symm;have lb:xb.length=fs.size:=(size_of_entries f4).symm;rw[la,lb]at h;unfold Builtin.Dict.samePairs Builtin.Dict.showsAll;rw[if_neg (by rw[na];decide),if_neg (by rw[nb];decide)];refine au (cj (au (cj (au (vq g1 g3 ?_)))));dsimp only;refine au (vq f1 f3 ?_);by_cases sz:es.size=fs.size
 case neg =>
  rw[if_pos (by simpa using sz)];rw[show(es.size==fs.size)=ao by simpa using sz,Bool.false_and]at h;exact au (zc (cj h))
 case pos =>
  have hr:Q r s:=by simpa[sz]using h
  have ht:=hits (by rw[la,lb];exact sz);rw[if_neg (by rw[sz];simp)];refine au (wpAny_dictEpoch g1 g3 (au ?_));rw[Std.Legacy.Range.forIn_eq_forIn_range'];simp only[Std.Legacy.Range.size,Nat.sub_zero,Nat.add_sub_cancel,Nat.div_one];refine wpAny_forIn_list _ (λrest q s'=>s'=s/\q=(bh,())/\∃i,rest=List.range' i (es.size - i)/\i<=es.size/\uG prog w A s xb (xa.drop i) r) _ ?_ ?_ _ _ ⟨rfl,rfl,0,by simp,vh _,ht⟩
  .rintro x rest q s' ⟨rfl,rfl,i,e1,i1,pre⟩
   have lt:i<es.size:=by
    rcases Nat.lt_or_ge i es.size with z|z
    .exact z
    .rw[Nat.sub_eq_zero_of_le z]at e1;simp at e1
   obtain⟨rfl,e2⟩:x=i/\rest=List.range' (i+1) (es.size - (i+1)):=by
    rw[show es.size - i=(es.size - (i+1))+1 by omega,List.range'_succ]at e1;injection e1 with z1 z2;exact⟨z1,z2⟩
   refine au (vq g1 g3 ?_);have lx:x<xa.length:=by rw[la];exact lt
   have en:es[x]?=aj (entryOfKey knd xa[x]):=by rw[entry_at g4 x,gV lx];rfl
   rw[en];obtain⟨k,p,kp⟩:∃k p,xa[x]=(k,p):=⟨_,_,rfl⟩;have dr:xa.drop x=(k,p)::xa.drop (x+1):=by rw[←kp];exact a1w lx
   have hk:knd.is s'.heap k p.1:=by have:=g5 xa[x] (wz lx);rw[kp]at this;exact this
   rw[dr]at pre;rw[kp];show dg _ _ (holding [aq.ref p.1,p.2] _ >>= _) _ _ _;refine au (qb (au ?_));refine wpAny_dictFind_heap hu hk f1 f3 f4 f5 f6 (λno=>?_) λj q2 hj=>?_
   .have z:=atKey_none_of_get no;rcases pre.inv with⟨_,er⟩|⟨_,_,_,hy,_⟩
    .rw[er]at hr;refine cj ?_;show dg _ _ (if(!false)=ak then _ else _) _ _ _;rw[if_pos (by decide)];exact cj (cj hr)
    .rw[z]at hy;cases hy
   .have z:=atKey_of_get f6 hj;refine au (vq f1 f3 ?_);rw[entry_at f4 j,hj];rcases pre.inv with⟨hn,_⟩|⟨q3,e,b',hy,he,hrr,er⟩
    .rw[z]at hn;cases hn
    .rw[z]at hy;cases hy;refine qb (he _ _ ?_);cases e with
     |false =>
      rw[er,Bool.false_and]at hr;show dg _ _ (if(!false)=ak then _ else _) _ _ _;rw[if_pos (by decide)];exact cj (cj hr)
     |true =>
      rw[Bool.true_and]at er;rw[←er]at hrr;show dg _ _ (if(!true)=ak then _ else _) _ _ _;rw[if_neg (by decide)];refine au (wpAny_dictEpoch g1 g3 ?_);rw[if_neg (by simp)];exact cj ⟨rfl,rfl,x+1,e2,lt,hrr⟩
  .rintro q s' ⟨rfl,rfl,i,e1,i1,pre⟩
   have en:i=es.size:=by
    rcases Nat.lt_or_ge i es.size with z|z
    .rw[show es.size - i=(es.size - (i+1))+1 by omega,List.range'_succ]at e1;cases e1
    .exact Nat.le_antisymm i1 z
   refine cj ?_;rw[en,←la,List.drop_length]at pre;cases pre;exact hr
theorem dO(h:s.heap.DictOfH knd d xs):s.TypeIs (.ref d) "dict":=let⟨o,_,_,h1,h2,_⟩:=h;⟨o,h1,h2.1⟩
theorem aq3{xa xb:List (κ×bw×aq)}(na:(a==nj)=ao)(nb:(b==nj)=ao)(da:s.heap.DictOfH knd a xa)(db:s.heap.DictOfH knd b xb)(hu:A.units<jl)(hr:knd.room A.in1)
  (hits:xa.length=xb.length->uG prog w A.in1 s xb xa r)(h:Q (.bool (xa.length==xb.length&&r)) s):dg (fj prog w) A (jd .Eq (.ref a) (.ref b)) Q E s:=by
 refine wpAny_richCompare_same_room (op:=.Eq) (dO da) (dO db) PySem.F.slot_dict_eq (wj PySem.F.slot_dict_eq (dO da) PySem.F.entry_dict_eq ?_ (PySem.F.args_dict_eq_2 _ _)) hu;show dg _ _ (Builtin.Dict.dictSlotArgs "__eq__" ⟨[.ref a,.ref b],[]⟩ >>= _) _ _ s;refine au ?_;unfold Builtin.Dict.dictSlotArgs;refine au (wpAny_notOrdered_dict (dO da) ?_);show dg _ _ (pure (aq.ref a,aq.ref b)) _ _ s;refine cj (au (wpAny_isInstance (T:="dict") (dO db) PySem.F.sub_dict_dict ?_));simp only[a0x,ou,if_false];refine au (cj (au (cj (au (aeT na nb da db hr hits (cj ⟨_,rfl,(λx=>nomatch x),?_⟩))))));simpa using h
theorem tup_ne{xa xb:List (κ×bw×aq)}(na:(a==nj)=ao)(nb:(b==nj)=ao)(da:s.heap.DictOfH knd a xa)(db:s.heap.DictOfH knd b xb)(hu:A.units<jl)(hr:knd.room A.in1)
  (hits:xa.length=xb.length->uG prog w A.in1 s xb xa r)(h:Q (.bool (!(xa.length==xb.length&&r))) s):dg (fj prog w) A (jd .NotEq (.ref a) (.ref b)) Q E s:=by
 refine wpAny_richCompare_same_room (op:=.NotEq) (dO da) (dO db) PySem.F.slot_dict_ne (wj PySem.F.slot_dict_ne (dO da) PySem.F.entry_dict_ne ?_ (PySem.F.args_dict_ne_2 _ _)) hu;show dg _ _ (Builtin.Dict.dictSlotArgs "__ne__" ⟨[.ref a,.ref b],[]⟩ >>= _) _ _ s;refine au ?_;unfold Builtin.Dict.dictSlotArgs;refine au (wpAny_notOrdered_dict (dO da) ?_);show dg _ _ (pure (aq.ref a,aq.ref b)) _ _ s;refine cj (au (wpAny_isInstance (T:="dict") (dO db) PySem.F.sub_dict_dict ?_));simp only[a0x,ou,if_false];refine au (cj (au (cj (au (aeT na nb da db hr hits (cj ⟨_,rfl,(λx=>nomatch x),?_⟩))))));simpa using h
end
end
theorem amR(nd:(ps.map (·.1)).Nodup):∀p∈ps,aJ ps p.1=aj p.2:=by
 induction ps with
 |nil=>intro p hp;cases hp
 |cons q ps ih =>
  intro p hp;rw[iy,qy]at nd;show(if q.1=p.1 then aj q.2 else aJ ps p.1)=_;rcases je.mp hp with rfl|hp
  .rw[if_pos rfl]
  .rw[if_neg]
   .exact ih nd.2 p hp
   .intro e;exact nd.1 (by rw[e];exact List.mem_map_of_mem hp)
theorem a73(nd:(ps.map (·.1)).Nodup):eqM ps ps=ak:=by
 unfold eqM;rw[beq_self_eq_true,Bool.true_and,jy];intro p hp;rw[amR nd p hp];exact beq_self_eq_true _
noncomputable def kY(z:List Key×bw):DK×D:=(.inr z.1,.ref z.2)
noncomputable def eqT(c:bw->List (Int×Int))(M N:List (List Key×bw)):Bool:=M.length==N.length&&M.all λz=>match aJ N z.1 with
 |some y=>eqM (c z.2) (c y)
 |none=>ao
theorem aq4{K:Fg}:∀{M:List (List Key×bw)}{ys:List (List Key×V)},qO K H .inr (M.map kY) ys->ys=M.map λz=>(z.1,.ref z.2)
 |[],_,.nil=>rfl
 |z::M,y::ys,.cons h r=>by
  obtain⟨k,v⟩:=y;obtain⟨h1,h2⟩:=h
  have e1:z.1=k:=by
   have:(Sum.inr z.1:DK)=.inr k:=h1;exact jO _ _ this
  cases h2;rw[aq4 r,←e1];rfl
theorem kt_len:∀{M:List (List Key×bw)}{xs:List (List Key×bw×aq)},KT H (M.map λz=>(z.1,V.ref z.2)) xs->xs.length=M.length
 |[],_,.nil=>rfl
 |_::_,_::_,.cons _ r=>by rw[lg,lg,kt_len r]
theorem kt_at{k:List Key}:∀{M:List (List Key×bw)}{xs:List (List Key×bw×aq)},KT H (M.map λz=>(z.1,V.ref z.2)) xs->(match aJ M k with
  |some y=>∃b,atKey xs k=aj (b,aq.ref y)
  |none=>atKey xs k=bh)
 |[],_,.nil=>rfl
 |z::M,x::xs,.cons h r=>by
  obtain⟨k2,b,u⟩:=x;obtain⟨h1,_,h3⟩:=h;cases h1;obtain rfl:u=aq.ref z.2:=h3;have ih:=kt_at (k:=k) r;unfold aJ;by_cases c:z.1=k
  .rw[if_pos c];exact⟨b,by simp[atKey,c]⟩
  .rw[if_neg c];have e:atKey ((z.1,b,aq.ref z.2)::xs) k=atKey xs k:=by simp[atKey,a0h,c]
   rw[e];exact ih
theorem acF{prog:jo}{w:jf}{A:jr}{s:dh}{H:Hp}{c:bw->List (Int×Int)}{N:List (List Key×bw)}{xb:List (List Key×bw×aq)}(hb:KT H (N.map λz=>(z.1,V.ref z.2)) xb)  :
  ∀{M:List (List Key×bw)}{xa:List (List Key×bw×aq)},KT H (M.map λz=>(z.1,V.ref z.2)) xa->(∀z∈M,∀y,aJ N z.1=aj y->avW prog w A s (.ref z.2) (.ref y) (eqM (c z.2) (c y)))->uG prog w A s xb xa (M.all λz=>match aJ N z.1 with
   |some y=>eqM (c z.2) (c y)
   |none=>ao)
 |[],_,.nil,_=>.nil
 |z::M,x::xa,.cons h r,he=>by
  obtain⟨k2,b,u⟩:=x;obtain⟨h1,_,h3⟩:=h;cases h1;obtain rfl:u=aq.ref z.2:=h3;have ih:=acF hb r λz hz=>he z (jq _ hz);have at1:=kt_at (k:=z.1) hb;have e0:=he z (su ..);rw[yt];cases e:aJ N z.1 with
  |none=>rw[e]at at1;exact .miss at1
  |some y =>
   rw[e]at at1;obtain⟨b2,at2⟩:=at1;exact .hit at2 (e0 y e) ih
theorem a74{k:List Key}(h:aJ M k=aj y):(k,y)∈M:=by
 induction M with
 |nil=>cases h
 |cons z M ih =>
  unfold aJ at h;by_cases c:z.1=k
  .rw[if_pos c]at h;cases h;rw[←c];exact su ..
  .rw[if_neg c]at h;exact jq _ (ih h)
section
variable{X:Cx}
theorem aaE(I:Inv X pins σ H s)(g:HR X.K H G)(e:G a=aj (.bC ao (ps.map jJ))):(a==nj)=ao/\(ps.map (·.1)).Nodup/\∃ka,KV (ps.map λp=>((.inl p.1:Key),V.int p.2)) ka/\s.heap.DictOf (aF X.prog X.w) a ka:=by
 rcases g a _ e with⟨_,ys,e1,tw⟩|⟨z,_⟩
 .have ey:=a71 tw;subst ey;obtain⟨z1,hsm,vs,kv,hd⟩:=a3V I.hok e1;refine⟨hsm,?_,vs,kv,hd⟩;have l2:=(a0N kv).2.1;obtain⟨o,es,ep,q1,q2,q3,q4,q5,q6⟩:=hd;rw[l2]at q6;exact zp.mpr ((zp.mp q6).imp λh z=>h (by rw[z]))
 .cases z
theorem a5O(I:Inv X pins σ H s)(g:HR X.K H G){M:List (List Key×bw)}(e:G a=aj (.bC ak (M.map kY))):(a==nj)=ao/\∃xa,KT H (M.map λz=>(z.1,V.ref z.2)) xa/\s.heap.DictOfH (a0d (aF X.prog X.w)) a xa:=by
 rcases g a _ e with⟨z,_⟩|⟨_,ys,e1,tw⟩
 .cases z
 .have ey:=aq4 tw;subst ey;obtain⟨z1,hsm,xs,kt,hd⟩:=adO I.hok e1;exact⟨hsm,xs,kt,hd⟩
noncomputable def aaF(neg:Bool):R3:=λx y G R =>
 (∃a b,∃ps qs:List (Int×Int),x=.ref a/\y=.ref b/\G a=aj (.bC ao (ps.map jJ))/\G b=aj (.bC ao (qs.map jJ))/\R (.bl (neg ^^ eqM ps qs)) G) ∨
 ∃a b,∃M N:List (List Key×bw),∃c:bw->List (Int×Int),x=.ref a/\y=.ref b/\G a=aj (.bC ak (M.map kY))/\G b=aj (.bC ak (N.map kY))/\(∀z∈M++N,G z.2=aj (.bC ao ((c z.2).map jJ)))/\R (.bl (neg ^^ eqT c M N)) G
theorem aIM(hu:X.A.units+64<jl):jY X (jd (if neg then .NotEq else .Eq)) (aaF neg):=vG λpins s σ H x y vx vy u v G R Q I rx ry ru rv g q k=>by
 have in1:X.A.in1.units=X.A.units+1:=rfl;rcases q with⟨a,b,ps,qs,rfl,rfl,e1,e2,q⟩|⟨a,b,M,N,c,rfl,rfl,e1,e2,hc,q⟩
 .cases rx;cases ry;obtain rfl:u=aq.ref a:=ru;obtain rfl:v=aq.ref b:=rv;obtain⟨n1,_,ka,va,da⟩:=aaE I g e1;obtain⟨n2,_,kb,vb,db⟩:=aaE I g e2;have l1:=(a0N va).1;have l2:=(a0N vb).1;have fin:∀bb:Bool,bb=(neg ^^ eqM ps qs)->EP X pins σ Q (.bool bb) s:=λbb eb=>⟨.bl bb,H,I,rfl,k _ H (.bl bb) G (.refl H) (.bl _) g (by rw[eb];exact q)⟩;cases neg with
  |false=>exact keq_eq n1 n2 da db (by omega) (λ_=>a5N vb va) (fin _ (by rw[l1,l2];simp[eqM]))
  |true=>exact keq_ne n1 n2 da db (by omega) (λ_=>a5N vb va) (fin _ (by rw[l1,l2];simp[eqM]))
 .cases rx;cases ry;obtain rfl:u=aq.ref a:=ru;obtain rfl:v=aq.ref b:=rv;obtain⟨n1,xa,va,da⟩:=a5O I g e1;obtain⟨n2,xb,vb,db⟩:=a5O I g e2;have l1:=kt_len va;have l2:=kt_len vb;have fin:∀bb:Bool,bb=(neg ^^ eqT c M N)->EP X pins σ Q (.bool bb) s:=λbb eb=>⟨.bl bb,H,I,rfl,k _ H (.bl bb) G (.refl H) (.bl _) g (by rw[eb];exact q)⟩
  have hits:=acF (prog:=X.prog) (w:=X.w) (A:=X.A.in1) (s:=s) (c:=c) vb va λz hz y hy=>by
   obtain⟨m1,nd1,k1,w1,d1⟩:=aaE I g (hc z (a0n _ hz));obtain⟨m2,nd2,k2,w2,d2⟩:=aaE I g (hc _ (qd _ (a74 hy)));exact ak8 m1 m2 d1 d2 w1 w2 (by omega) λe=>by rw[e];exact a73 nd2
  cases neg with
  |false=>exact aq3 n1 n2 da db (by omega) (show X.A.in1.units<jl by omega) (λ_=>hits) (fin _ (by rw[l1,l2];simp[eqT]))
  |true=>exact tup_ne n1 n2 da db (by omega) (show X.A.in1.units<jl by omega) (λ_=>hits) (fin _ (by rw[l1,l2];simp[eqT]))
end
end
section
open PySem.W
section
end
end
variable{ep kt:Nat}{en:Array yj}{al:Bool}{SJ:Hp->Src->It->Prop}
section
open PySem.W
structure Fz(X:Cx)(p:bw):Prop where
 free:∀ob,X.s₀.heap.get? p=aj ob->X.H₀ p=bh->p∈X.ex
 tup:∀xs,X.H₀ p≠aj (.tup xs)
 gF:∀o w,X.H₀ p≠aj (.gF o w)
 tbl:∀ps,X.H₀ p≠aj (.tbl ps)
section
variable{pins:List (bw×Obj)}{s:dh}
theorem Fz.of(I:Inv X pins σ H s)(hu:H p=aj u)(h1:∀xs,u≠.tup xs)(h2:∀ob w,u≠.gF ob w)(h3:∀ps,u≠.tbl ps):Fz X p:=by
 refine⟨λob q n=>?_,λxs q=>?_,λo w q=>?_,λps q=>?_⟩
 .apply Classical.byContradiction;intro hx;have:=I.base.free p ob q n hx;rw[hu]at this;cases this
 .have:=I.base.tups p xs q;rw[hu]at this;exact h1 xs (iz.inj this)
 .have:=I.base.jK p o w q;rw[hu]at this;exact h2 o w (iz.inj this)
 .obtain⟨more,this⟩:=I.base.sV p ps q;rw[hu]at this;exact h3 _ (iz.inj this)
end
section
variable{X:Cx}{pins:List (bw×Obj)}{s:dh}
theorem Inv.freeze(I:Inv X pins σ H s){o:Obj}(hu:H a=aj u)(h1:∀xs,u≠.tup xs)(h2:∀ob w,u≠.gF ob w)(h3:∀ps,u≠.tbl ps)(h4:∀x,u≠.own x)(ho:s.heap.get? a=aj o):Inv X pins σ (upd H a (.gF o u)) s:=by
 have ne:∀{b:bw}{v:HO},H b=aj v->v≠u->b≠a:=λe n z=>by subst z;rw[hu]at e;exact n (iz.inj e).symm
 have no:∀{b:bw},H b=bh->upd H a (.gF o u) b=bh:=λ{b} e=>by
  rw[aU];exact e;intro z;subst z;rw[hu]at e;cases e
 have kt:∀b xs,H b=aj (.tup xs)->upd H a (.gF o u) b=aj (.tup xs):=λb xs q=>by rw[aU (ne q λz=>h1 xs z.symm)];exact q
 have kf:∀b ob w,H b=aj (.gF ob w)->upd H a (.gF o u) b=aj (.gF ob w):=λb ob w q=>by rw[aU (ne q λz=>h2 ob w z.symm)];exact q
 have ko:∀b x,H b=aj (.own x)->upd H a (.gF o u) b=aj (.own x):=λb x q=>by rw[aU (ne q λz=>h4 x z.symm)];exact q
 refine⟨I.ok,I.os,I.bare,⟨I.base.keep,I.base.slot,λb ob q n hx=>no (I.base.free b ob q n hx),I.base.there,λb xs q=>kt b xs (I.base.tups b xs q),λb ob w q=>kf b ob w (I.base.jK b ob w q),λb ps q=>?_⟩,I.loc,I.cell,no I.free,λx c e=>no (I.nF x c e),λp hp=>?_,λb v e=>?_,I.len,I.hnd.mono kf,λp hp=>kt _ _ (I.tup p hp)⟩
 .obtain⟨more,e⟩:=I.base.sV b ps q;exact⟨more,by rw[aU (ne e λz=>h3 _ z.symm)];exact e⟩
 .obtain⟨z1,z2,z3⟩:=I.pin p hp;exact⟨z1,no z2,z3⟩
 .by_cases hb:b=a
  .subst hb;rw[aK]at e;obtain rfl:=iz.inj e;exact⟨ho,(I.hok b u hu).stay (λ_ _ _ q=>q) (λc q=>ko c _ q) λc xs q=>kt c xs q⟩
  .rw[aU hb]at e;exact(I.hok b v e).stay (λ_ _ _ q=>q) (λc q=>ko c _ q) λc xs q=>kt c xs q
theorem aq5(r:KV ys vs):∀{i:Nat}{k:Key}{y:V},ys[i]?=aj (k,y)->∃u,vs[i]?=aj (k,u)/\RelV y u:=by
 induction r with
 |nil=>intro i k y e;simp at e
 |@cons p q _ _ h _ ih =>
  intro i k y e;cases i with
  |zero =>
   simp only[zy,iz.injEq]at e;subst e;obtain⟨q1,q2⟩:=q;obtain⟨h1,h2⟩:=h;exact⟨q2,by simp only[zy];rw[show q1=k from h1.symm],h2⟩
  |succ i=>simpa using ih (by simpa using e)
theorem ak9{k:Key}{key:aq}(h:a07 k key=ak):RelV (kV k) key:=by
 rcases cG h with⟨i,t,e1,e2⟩|⟨i,t,e1,e2⟩
 .subst e1;exact⟨t,e2⟩
 .subst e1;exact⟨t,e2⟩
theorem a75{od:Obj}{es:Array yj}(I:Inv X pins σ H s)(hd:od.data=.dict es ep)(hq:H a=aj (.gF od (.dK ys))) :
  ∃vs,KV ys vs/\s.heap.DictAt (aF X.prog X.w) a vs ep/\vs.length=es.size/\(a==nj)=ao:=by
 obtain⟨hod,_⟩:=(show s.heap.get? a=aj od/\_ from I.hok a _ hq);obtain⟨_,hsm,vs,kv,o1,es1,ep1,g1,g2,g3,g4,g5,g6⟩:=uE I.hok (.inr ⟨od,hq⟩);rw[hod]at g1;obtain rfl:=iz.inj g1;rw[hd]at g3;injection g3 with e1 e2;subst e1 e2;exact⟨vs,kv,⟨od,es,hod,g2,hd,g4,g5,g6⟩,by rw[←g5.length];simp,hsm⟩
end
noncomputable def Iti(a:bw)(od:Obj):It :=
 ⟨λi H=>∃ys:List (Key×V),H a=aj (.gF od (.dK ys))/\i<ys.length,
  λi H v H'=>∃(p:bw)(k:Key)(y:V),H p=bh/\v=.ref p/\H'=upd H p (.tup [kV k,y])/\∀ys,H a=aj (.gF od (.dK ys))->ys[i]?=aj (k,y),
  λi H=>∃ys:List (Key×V),H a=aj (.gF od (.dK ys))/\ys.length<=i⟩
theorem a76{w:jf}{K:Fg}{pt:Pos}{od:Obj}(hd:od.data=.dict en ep) :
  Turn ak tl P w K (.Tuple es kt pt) (Iti a od) [it] it (λi h=>∃ok ov,IsItemIter h it a i en.size ep ok ov) where
 mem:=by simp
 obj:=λi h st b hb=>by
  have e:b=it:=by simpa using hb
  subst e;obtain⟨ok,ov,e⟩:=st;exact⟨_,e,λv z=>nomatch z⟩
 keep:=λi h h' st k=>by
  obtain⟨ok,ov,e⟩:=st;exact⟨ok,ov,k it (by simp) _ e⟩
 item:=by
  intro X hP hw hK hcm ht i pins s σ H E I hf st hg;subst hP hw hK;obtain⟨ok,ov,hit⟩:=st;obtain⟨ys,hq,hi⟩:=hg;obtain⟨vs,kv,hm,hn,_⟩:=a75 I hd hq;have hx:ys[i]?=aj (ys[i].1,ys[i].2):=gV hi;obtain⟨u,hu,ru⟩:=aq5 kv hx;have fr:=I.hok.fresh (dz s.heap.objs.size);have nit:s.heap.objs.size≠it:=a0e (gw hit);refine wpAny_pyNext_items_item (knd:=aF X.prog X.w) (kvs:=vs) (by rw[hn];exact hit) hm hu λkey h' hkey hout htu hsz kk=>?_;refine⟨_,rfl,wpAny_letOwnedTupleGo_items (s:={s with heap:=h' }) hout λh2 hin sb=>?_⟩;have k2:∀b o,b∉[it]->s.heap.get? b=aj o->h2.get? b=aj o:=λb o hb e=>sb.extBut _ _ (λq=>hb (by simp[q])) (kk b o (λq=>hb (by simp[q])) e)
  refine⟨.ref s.heap.objs.size,upd H s.heap.objs.size (.tup [kV ys[i].1,ys[i].2]),I.amI (t':=s.toks) (ch:=[it]) k2 hf (dz _) ⟨show 2<=cu by decide,[key,u],.cons (ak9 hkey) (.cons ru .nil),⟨_,sb.extBut _ _ nit htu,rfl,_,rfl⟩⟩,rfl,
   ⟨_,ys[i].1,ys[i].2,fr,rfl,rfl,λzs z=>by rw[hq]at z;cases z;exact hx⟩,⟨_,_,by rw[hn]at hin;exact hin⟩,λb hb=>?_⟩
  have e:b=it:=by simpa using hb
  subst e;rw[aU (Ne.symm nit)];exact(hf _ hb).1
 done:=by
  intro X hP hw hK hcm ht i pins s σ H E I hf st hg;subst hP hw hK;obtain⟨ok,ov,hit⟩:=st;obtain⟨ys,hq,hi⟩:=hg;obtain⟨vs,kv,hm,hn,_⟩:=a75 I hd hq;obtain⟨f0,f1,f2,f3,f4,f5⟩:=hf it (by simp);have hl:ys.length=vs.length:=Paired.length kv;exact wpAny_pyNext_items_end (knd:=aF X.prog X.w) (kvs:=vs) (I.ok.hd (hcm rfl)) (by rw[hn];exact hit) hm (a1n (by omega)) λh' eb=>⟨rfl,I.turned (t':=s.toks) (λb o hb e=>eb b o hb e) f0 f1 f3 f4 f5⟩
 self:=λ_ _ _ _ _ st h=>by
  obtain⟨ok,ov,hit⟩:=st;exact kcp_self hit h
theorem aq6{K:Fg}:∀k:Key,RD K H (kD k) (kV k)
 |.inl i=>.int i
 |.inr x=>.str x
theorem aeU{K:Fg}:∀ks:List Key,bW K H (ks.map kD) (ks.map kV)
 |[]=>.nil
 |k::ks=>.cons (aq6 k) (aeU ks)
theorem akA{α β:Type}{P:α->β->Prop}{as:List α}{bs:List β}(t:Two P as bs):∀{i:Nat}{b:β},bs[i]?=aj b->∃a,as[i]?=aj a/\P a b:=by
 induction t with
 |nil=>intro i b e;simp at e
 |@cons a b _ _ h _ ih =>
  intro i c e;cases i with
  |zero=>simp only[zy,iz.injEq]at e;subst e;exact⟨a,rfl,h⟩
  |succ i=>simpa using ih (by simpa using e)
def akB(al:Bool)(x:D)(G1:Gp)(R:Src->Gp->Prop):Prop:=match x with
 |.ref p=>(match G1 p with
  |some (.bC ao kvs)=>∀od,R (.itm p od kvs) (aH G1 p (.yM od ao kvs))
  |some (.yM od ao kvs)=>al=ak/\R (.itm p od kvs) G1
  |_=>False)
 |_=>False
noncomputable def avX(al:Bool)(to:bV):TI3:=λρ G R=>to ρ G λx G1=>akB al x G1 R
set_option tactic.hygienic true in
theorem aq7(h:akB al x G1 R):∃p kvs,x=.ref p/\((G1 p=aj (.bC ao kvs)/\∀od,R (.itm p od kvs) (aH G1 p (.yM od ao kvs)))∨∃od,G1 p=aj (.yM od ao kvs)/\al=ak/\R (.itm p od kvs) G1):=by
 unfold akB at h;split at h
 .rename_i p;split at h
  .rename_i kvs e;exact⟨p,kvs,rfl,.inl ⟨e,h⟩⟩
  .rename_i od kvs e;exact⟨p,kvs,rfl,.inr ⟨od,e,h⟩⟩
  .exact h.elim
 .exact h.elim
section
variable{X:Cx}
theorem aIO{to:bV}{apos cpos:Pos}{es:List jk}{pt:Pos}(hc:X.calm=ak)(ho:bY X o to)
  (hbase:uh o "items" X.env (eval o X.env)=eval o X.env)(hline:(apos.endLine==cpos.line)=ak)(hSJ:∀H p od kvs,(al=ao->Fz X p)->SJ H (.itm p od kvs) (Iti p od)) :
  PI X (.Tuple es kt pt) (.Call (.Attribute o "items" apos) [] [] cpos) (λσ H Q=>∃ρ G R,SR X.K H ρ σ/\HR X.K H G/\avX al to ρ G R/\∀src J H' G',Ts H H'->HR X.K H' G'->SJ H' src J->R src G'->Q J H'):=by
 intro pins s σ H Q I h;obtain⟨ρ,G,R,sr,g,q,kk⟩:=h;refine zx hbase hline (cR (ho pins s σ H (λvx H1=>Ts H H1/\∃x G1,RD X.K H1 x vx/\HR X.K H1 G1/\akB al x G1 R) I ⟨ρ,G,_,sr,g,q,λv H1 x G1 t1 r1 g1 q1=>⟨t1,x,G1,r1,g1,q1⟩⟩) ?_);rintro v s1 ⟨vx,H1,I1,r1,t1,x1,G1,rx,g1,q1⟩;obtain⟨a,kvs,rfl,q2⟩:=aq7 q1;cases rx;obtain rfl:v=aq.ref a:=r1
 obtain⟨ys,ed⟩:∃ys:List (Key×V),Rd H1 a (.dK ys):=by
  rcases q2 with⟨e1,_⟩|⟨od,e1,_⟩
  .rcases g1 a _ e1 with⟨_,ys,e2,_⟩|⟨z,_⟩
   .exact⟨ys,.inl e2⟩
   .cases z
  .rcases g1 a _ e1 with⟨_,ys,e2,_⟩|⟨z,_⟩
   .exact⟨ys,.inr ⟨od,e2⟩⟩
   .cases z
 obtain⟨h1,h2,h3⟩:=a2A I1 (.inl ⟨ys,ed⟩);refine⟨"dict","dict.items",PySem.F.plainAttrs_dict,PySem.F.slot_dict_items,PySem.F.type_dict_items,h1,h2,Calls.callWith_builtin rfl (PySem.evalArgs_none ?_)⟩;obtain⟨_,hsm,vs,kv,hd⟩:=uE I1.hok ed;refine call_meetsIn PySem.F.slot_dict_items h1 PySem.F.entry_dict_items (PySem.F.args_dict_items_1 _) (meets_dict_items (aF X.prog X.w) a hsm) ⟨⟨vs,hd⟩,?_⟩;obtain⟨od,en,ep,o1,o2,o3,o4,o5,o6⟩:=hd;have I2:Inv X pins σ H1 {s1 with heap:=s1.heap.push {cls:=.type "dict_items",data:=.fields #[.ref a]},toks:=s1.toks}:=I1.kept λb o e=>cg _ e;have od2:(s1.heap.push {cls:=.type "dict_items",data:=.fields #[.ref a]}).get? a=aj od:=cg _ o1;have hm:(s1.heap.push {cls:=.type "dict_items",data:=.fields #[.ref a]}).DictAt (aF X.prog X.w) a vs ep:=⟨od,en,od2,o2,o3,o4,o5,o6⟩;have hln:vs.length=en.size:=by rw[←o5.length];simp
 show dg (fj X.prog X.w) X.A (pyIter (.ref s1.heap.objs.size)) (PIE X pins σ (.Tuple es kt pt) Q) X.xe {s1 with heap:=s1.heap.push {cls:=.type "dict_items",data:=.fields #[.ref a]}};generalize hh:s1.heap.push {cls:=.type "dict_items",data:=.fields #[.ref a]}=hp at *;have hv:hp.IsItemsView s1.heap.objs.size a:=⟨_,by rw[←hh];exact ig _ rfl,rfl,rfl⟩;refine wpAny_pyIter_items (s:={s1 with heap:=hp}) (knd:=aF X.prog X.w) hv hm ?_;have I3:Inv X pins σ H1 {s1 with heap:=hp.push {cls:=.type "dict_itemiterator",data:=.fields #[.none,.bool ao,.ref a,.int 0 0,.int vs.length 0,.int ep 0,.none,.none]},toks:=s1.toks}:=I2.kept λb o e=>cg _ e;have od3:(hp.push {cls:=.type "dict_itemiterator",data:=.fields #[.none,.bool ao,.ref a,.int 0 0,.int vs.length 0,.int ep 0,.none,.none]}).get? a=aj od:=cg _ od2
 have hit:IsItemIter (hp.push {cls:=.type "dict_itemiterator",data:=.fields #[.none,.bool ao,.ref a,.int 0 0,.int vs.length 0,.int ep 0,.none,.none]}) hp.objs.size a 0 en.size ep .none .none:=by
  rw[←hln];exact ig _ rfl
 have fr1:H1 hp.objs.size=bh:=I2.hok.fresh (dz _);rcases q2 with⟨e1,q3⟩|⟨od',e1,ha,q3⟩
 .rcases g1 a _ e1 with⟨_,zs,e2,tw⟩|⟨z,_⟩
  .have tt:Ts H1 (upd H1 a (.gF od (.dK zs))):=Ts.turn e2 (λxs z=>nomatch z) (λob w z=>nomatch z);have I4:=I3.freeze e2 (λxs z=>nomatch z) (λob w z=>nomatch z) (λps z=>nomatch z) (λx z=>nomatch z) od3;have g4:HR X.K (upd H1 a (.gF od (.dK zs))) (aH G1 a (.yM od ao kvs)):=g1.turn tt (.inl ⟨rfl,zs,aK,tw.imp λ_ _ q=>⟨q.1,q.2.mono tt⟩⟩);have na:hp.objs.size≠a:=a0e (gw od2);refine⟨hp.objs.size,[hp.objs.size],_,Iti a od,_,rfl,I4,(show Turn X.calm X.tp X.prog X.w X.K (.Tuple es kt pt) _ _ _ _ from hc ▸ a76 o3),⟨_,_,hit⟩,λb hb=>?_,kk _ _ _ _ (t1.trans tt) g4 (hSJ _ a od kvs λ_=>Fz.of I1 e2 (λxs z=>nomatch z) (λob w z=>nomatch z) (λps z=>nomatch z)) (q3 od)⟩;have e:b=hp.objs.size:=by simpa using hb
   subst e;exact I2.a08 (dz _) (by rw[aU na];exact fr1)
  .cases z
 .rcases g1 a _ e1 with⟨_,zs,e2,tw⟩|⟨z,_⟩
  .obtain⟨od4,_⟩:=(show s1.heap.get? a=aj od'/\_ from I1.hok a _ e2);rw[o1]at od4;obtain rfl:=iz.inj od4;refine⟨hp.objs.size,[hp.objs.size],_,Iti a od,_,rfl,I3,(show Turn X.calm X.tp X.prog X.w X.K (.Tuple es kt pt) _ _ _ _ from hc ▸ a76 o3),⟨_,_,hit⟩,λb hb=>?_,kk _ _ _ _ t1 g1 (hSJ _ a od kvs λz=>by rw[ha]at z;cases z) q3⟩;have e:b=hp.objs.size:=by simpa using hb
   subst e;exact I2.a08 (dz _) fr1
  .cases z
end
noncomputable def Itk(a:bw)(od:Obj):It :=
 ⟨λi H=>∃ys:List (Key×V),H a=aj (.gF od (.dK ys))/\i<ys.length,
  λi H v H'=>H'=H/\∀ys,H a=aj (.gF od (.dK ys))->∃k y,ys[i]?=aj (k,y)/\v=kV k,
  λi H=>∃ys:List (Key×V),H a=aj (.gF od (.dK ys))/\ys.length<=i⟩
noncomputable def Itq(a:bw)(od:Obj):It :=
 ⟨λi H=>∃ys:List (List Key×V),H a=aj (.gF od (.dT ys))/\i<ys.length,
  λi H v H'=>H'=H/\∀ys,H a=aj (.gF od (.dT ys))->∃ks y q,ys[i]?=aj (ks,y)/\v=.ref q/\H q=aj (.tup (ks.map kV)),
  λi H=>∃ys:List (List Key×V),H a=aj (.gF od (.dT ys))/\ys.length<=i⟩
section
variable{pins:List (bw×Obj)}{s:dh}
variable{od:Obj}{es:Array yj}
theorem aeV{ys:List (Key×V)}(I:Inv X pins σ H s)(hd:od.data=.dict es ep)(hq:H a=aj (.gF od (.dK ys))) :
  nH s.heap a es ep/\es.size=ys.length/\∀(i:Nat)(k:Key)(y:V),ys[i]?=aj (k,y)->∃e:yj,es[i]?=aj e/\RelV (kV k) e.key:=by
 obtain⟨vs,kv,hm,hn,_⟩:=a75 I hd hq;obtain⟨od',es',h1,h2,h3,h4,h5,h6⟩:=hm;obtain⟨hod,_⟩:=(show s.heap.get? a=aj od/\_ from I.hok a _ hq);rw[hod]at h1;obtain rfl:=iz.inj h1;rw[hd]at h3;injection h3 with e1 e2;subst e1;refine⟨⟨od,hod,h2,hd⟩,by rw[←hn];exact(Paired.length kv).symm,λi k y e=>?_⟩;obtain⟨u,hu,_⟩:=aq5 kv e;have lt:i<es.size:=by rw[←hn];exact(ji.mp hu).1
 obtain⟨hkey,_⟩:=h5.get? (e:=es[i]) (by simp[lt]) hu;exact⟨es[i],by simp[lt],ak9 hkey⟩
theorem aCQ(r:KT H ys xs):∀{i:Nat}{ks:List Key}{y:V},ys[i]?=aj (ks,y)->∃q u,xs[i]?=aj (ks,q,u)/\H q=aj (.tup (ks.map kV)):=by
 induction r with
 |nil=>intro i k y e;simp at e
 |@cons p q _ _ h _ ih =>
  intro i ks y e;cases i with
  |zero =>
   simp only[zy,iz.injEq]at e;subst e;obtain⟨q1,q2,q3⟩:=q;obtain⟨h1,h2,h3⟩:=h;obtain rfl:ks=q1:=h1;exact⟨q2,q3,rfl,h2⟩
  |succ i=>simpa using ih (by simpa using e)
theorem aaG{ys:List (List Key×V)}(I:Inv X pins σ H s)(hd:od.data=.dict es ep)(hq:H a=aj (.gF od (.dT ys))) :
  nH s.heap a es ep/\es.size=ys.length/\∀(i:Nat)(ks:List Key)(y:V),ys[i]?=aj (ks,y)->∃(e:yj)(q:bw),es[i]?=aj e/\e.key=aq.ref q/\H q=aj (.tup (ks.map kV)):=by
 obtain⟨hod,_⟩:=(show s.heap.get? a=aj od/\_ from I.hok a _ hq);obtain⟨_,hsm,xs,kt,o1,es1,ep1,g1,g2,g3,g4,g5⟩:=yL I.hok (.inr ⟨od,hq⟩);rw[hod]at g1;obtain rfl:=iz.inj g1;rw[hd]at g3;injection g3 with e1 e2;subst e1;have hl:es.size=xs.length:=by rw[←vo,g4,dj]
 refine⟨⟨od,hod,g2,hd⟩,by rw[hl];exact(Paired.length kt).symm,λi ks y e=>?_⟩;obtain⟨q,u,hx,hh⟩:=aCQ kt e;refine⟨entryOfKey (a0d (aF X.prog X.w)) (ks,q,u),q,?_,rfl,hh⟩;rw[←a0k,g4,vp,hx];rfl
end
theorem amS(aCR:cm=ak){w:jf}{K:Fg}{od:Obj}(hd:od.data=.dict en ep) :
  Turn cm tl P w K tg (Itk a od) [it] it (λi h=>h.IsKeyIter it a i en.size ep) where
 mem:=by simp
 obj:=λi h st b hb=>by
  have e:b=it:=by simpa using hb
  subst e;obtain⟨o,e,c,d⟩:=st;exact⟨o,e,λv z=>by rw[d]at z;cases z⟩
 keep:=λi h h' st k=>st.at λo e=>k it (by simp) o e
 item:=by
  intro X hP hw hK hcm ht i pins s σ H E I hf st hg;subst hP hw hK;obtain⟨ys,hq,hi⟩:=hg;obtain⟨hm,hn,hk⟩:=aeV I hd hq;have hx:ys[i]?=aj (ys[i].1,ys[i].2):=gV hi;obtain⟨e,he,rk⟩:=hk i _ _ hx;obtain⟨f0,f1,f2,f3,f4,f5⟩:=hf it (by simp);refine a5M st hm he λh' st' sb=>?_;have I1:Inv X pins σ H {s with heap:=h' }:=I.turned (t':=s.toks) (λb o hb e=>(sb.2 b hb).trans e) f0 f1 f3 f4 f5;obtain⟨o,e,c,d⟩:=id st';exact⟨_,rfl,a3S (s:={s with heap:=h' }) e c d (by decide) ⟨kV ys[i].1,H,I1,rk,⟨rfl,λzs z=>by rw[hq]at z;cases z;exact⟨_,_,hx,rfl⟩⟩,st',λb hb=>(hf b hb).1⟩⟩
 done:=by
  intro X hP hw hK hcm ht i pins s σ H E I hf st hg;subst hP hw hK;obtain⟨ys,hq,hi⟩:=hg;obtain⟨hm,hn,hk⟩:=aeV I hd hq;obtain⟨f0,f1,f2,f3,f4,f5⟩:=hf it (by simp);exact ac7 (I.ok.hd (hcm aCR)) st hm (by omega) λh' eb=>⟨rfl,I.turned (t':=s.toks) (λb o hb e=>eb b o hb e) f0 f1 f3 f4 f5⟩
 self:=λ_ _ _ _ _ st h=>wpAny_pyIter_keyiter st h
theorem ahR(aCR:cm=ak){w:jf}{K:Fg}{od:Obj}(hd:od.data=.dict en ep) :
  Turn cm tl P w K tg (Itq a od) [it] it (λi h=>h.IsKeyIter it a i en.size ep) where
 mem:=by simp
 obj:=λi h st b hb=>by
  have e:b=it:=by simpa using hb
  subst e;obtain⟨o,e,c,d⟩:=st;exact⟨o,e,λv z=>by rw[d]at z;cases z⟩
 keep:=λi h h' st k=>st.at λo e=>k it (by simp) o e
 item:=by
  intro X hP hw hK hcm ht i pins s σ H E I hf st hg;subst hP hw hK;obtain⟨ys,hq,hi⟩:=hg;obtain⟨hm,hn,hk⟩:=aaG I hd hq;have hx:ys[i]?=aj (ys[i].1,ys[i].2):=gV hi;obtain⟨e,q,he,ek,hh⟩:=hk i _ _ hx;obtain⟨f0,f1,f2,f3,f4,f5⟩:=hf it (by simp);refine a5M st hm he λh' st' sb=>?_;have I1:Inv X pins σ H {s with heap:=h' }:=I.turned (t':=s.toks) (λb o hb e=>(sb.2 b hb).trans e) f0 f1 f3 f4 f5;obtain⟨o,e',c,d⟩:=id st';exact⟨_,rfl,a3S (s:={s with heap:=h' }) e' c d (by decide) ⟨.ref q,H,I1,ek,⟨rfl,λzs z=>by rw[hq]at z;cases z;exact⟨_,_,q,hx,rfl,hh⟩⟩,st',λb hb=>(hf b hb).1⟩⟩
 done:=by
  intro X hP hw hK hcm ht i pins s σ H E I hf st hg;subst hP hw hK;obtain⟨ys,hq,hi⟩:=hg;obtain⟨hm,hn,hk⟩:=aaG I hd hq;obtain⟨f0,f1,f2,f3,f4,f5⟩:=hf it (by simp);exact ac7 (I.ok.hd (hcm aCR)) st hm (by omega) λh' eb=>⟨rfl,I.turned (t':=s.toks) (λb o hb e=>eb b o hb e) f0 f1 f3 f4 f5⟩
 self:=λ_ _ _ _ _ st h=>wpAny_pyIter_keyiter st h
noncomputable def ItK(a:bw)(od:Obj):Bool->It
 |false=>Itk a od
 |true=>Itq a od
theorem aeW{K:Fg}{t:Bool}:a95 K H1 (.key p od t kvs) (ItK p od t):=λH2 G2 t' g ok=>by
 have ok':G2 p=aj (.yM od t kvs):=ok;rcases g p _ ok' with⟨rfl,ys,e,tw⟩|⟨rfl,ys,e,tw⟩
 .have hl:(Src.key p od ao kvs).items.length=ys.length:=by simp[Src.items,tw.length]
  refine⟨λi hi=>⟨ys,e,by rw[hl]at hi;exact hi⟩,λi v H' hi hy=>?_,⟨ys,e,by rw[hl];exact dz _⟩⟩;obtain⟨rfl,hy⟩:=hy;obtain⟨k,y,e1,rfl⟩:=hy ys e;obtain⟨⟨dk,d⟩,e2,r1,r2⟩:=akA tw e1;have r1:dk=.inl k:=r1;subst r1;exact⟨.refl _,kD k,by simp[Src.items,e2,dkD],aq6 k⟩
 .have hl:(Src.key p od ak kvs).items.length=ys.length:=by simp[Src.items,tw.length]
  refine⟨λi hi=>⟨ys,e,by rw[hl]at hi;exact hi⟩,λi v H' hi hy=>?_,⟨ys,e,by rw[hl];exact dz _⟩⟩;obtain⟨rfl,hy⟩:=hy;obtain⟨ks,y,q,e1,rfl,hh⟩:=hy ys e;obtain⟨⟨dk,d⟩,e2,r1,r2⟩:=akA tw e1;have r1:dk=.inr ks:=r1;subst r1;exact⟨.refl _,.tup (ks.map kD),by simp[Src.items,e2,dkD],.tup (yK.of hh) (aeU ks) (am8 hh)⟩
theorem aeX{K:Fg}{t:Bool}:ac3 K (.key p od t kvs) (ItK p od t):=λH2 G2 g ok=>aeW (H1:=H2) H2 G2 (.refl _) g ok
def a77(al:Bool)(x:D)(G1:Gp)(R:Src->Gp->Prop):Prop:=match x with
 |.ref p=>(match G1 p with
  |some (.bC t kvs)=>∀od,R (.key p od t kvs) (aH G1 p (.yM od t kvs))
  |some (.yM od t kvs)=>al=ak/\R (.key p od t kvs) G1
  |_=>False)
 |_=>False
noncomputable def oA(al:Bool)(te:bV):TI3:=λρ G R=>te ρ G λx G1=>a77 al x G1 R
set_option tactic.hygienic true in
theorem aq8(h:a77 al x G1 R):∃p t kvs,x=.ref p/\((G1 p=aj (.bC t kvs)/\∀od,R (.key p od t kvs) (aH G1 p (.yM od t kvs)))∨∃od,G1 p=aj (.yM od t kvs)/\al=ak/\R (.key p od t kvs) G1):=by
 unfold a77 at h;split at h
 .rename_i p;split at h
  .rename_i t kvs e;exact⟨p,t,kvs,rfl,.inl ⟨e,h⟩⟩
  .rename_i od t kvs e;exact⟨p,t,kvs,rfl,.inr ⟨od,e,h⟩⟩
  .exact h.elim
 .exact h.elim
section
variable{X:Cx}{pins:List (bw×Obj)}{σ:St}{H:Hp}{s:dh}
theorem aeY(I:Inv X pins σ H s)(d:IsD H a):∃od en ep,s.heap.get? a=aj od/\od.ExactDict/\od.data=.dict en ep/\(a==nj)=ao:=by
 rcases d with⟨kvs,e⟩|⟨kvs,e⟩
 .obtain⟨_,hd,vs,_,od,en,ep,h1,h2,h3,_⟩:=uE I.hok e;exact⟨od,en,ep,h1,h2,h3,hd⟩
 .obtain⟨_,hd,vs,_,od,en,ep,h1,h2,h3,_⟩:=yL I.hok e;exact⟨od,en,ep,h1,h2,h3,hd⟩
theorem akC{K:Fg}{t:Bool}(g:HR K H G)(e:G a=aj (.bC t kvs))(od:Obj) :
  ∃u,H a=aj u/\(∀xs,u≠.tup xs)/\(∀ob w,u≠.gF ob w)/\(∀ps,u≠.tbl ps)/\(∀x,u≠.own x)/\Ts H (upd H a (.gF od u))/\HR K (upd H a (.gF od u)) (aH G a (.yM od t kvs)):=by
 rcases g a _ e with⟨z,ys,e2,tw⟩|⟨z,ys,e2,tw⟩
 .have tt:Ts H (upd H a (.gF od (.dK ys))):=Ts.turn e2 (λxs z=>nomatch z) (λob w z=>nomatch z);exact⟨_,e2,(λxs z=>nomatch z),(λob w z=>nomatch z),(λps z=>nomatch z),(λx z=>nomatch z),tt,g.turn tt (.inl ⟨z,ys,aK,tw.imp λ_ _ q=>⟨q.1,q.2.mono tt⟩⟩)⟩
 .have tt:Ts H (upd H a (.gF od (.dT ys))):=Ts.turn e2 (λxs z=>nomatch z) (λob w z=>nomatch z);exact⟨_,e2,(λxs z=>nomatch z),(λob w z=>nomatch z),(λps z=>nomatch z),(λx z=>nomatch z),tt,g.turn tt (.inr ⟨z,ys,aK,tw.imp λ_ _ q=>⟨q.1,q.2.mono tt⟩⟩)⟩
theorem aq9{K:Fg}{t:Bool}(g:HR K H G)(e:G a=aj (.bC t kvs)):IsD H a:=by
 rcases g a _ e with⟨_,ys,e2,_⟩|⟨_,ys,e2,_⟩
 .exact .inl ⟨ys,.inl e2⟩
 .exact .inr ⟨ys,.inl e2⟩
theorem avY{K:Fg}{t:Bool}(g:HR K H G)(e:G a=aj (.yM od t kvs)):IsD H a:=by
 rcases g a _ e with⟨_,ys,e2,_⟩|⟨_,ys,e2,_⟩
 .exact .inl ⟨ys,.inr ⟨od,e2⟩⟩
 .exact .inr ⟨ys,.inr ⟨od,e2⟩⟩
theorem aqA{w:jf}{K:Fg}{od:Obj}(t:Bool)(hd:od.data=.dict en ep) :
  Turn ak tl P w K tg (ItK a od t) [it] it (λi h=>h.IsKeyIter it a i en.size ep):=by
 cases t with
 |false=>exact amS rfl hd
 |true=>exact ahR rfl hd
theorem acG{e tg:jk}{te:bV}(hc:X.calm=ak)(he:bY X e te)(hSJ:∀H p od t kvs,(al=ao->Fz X p)->SJ H (.key p od t kvs) (ItK p od t)) :
  PI X tg e (λσ H Q=>∃ρ G R,SR X.K H ρ σ/\HR X.K H G/\oA al te ρ G R/\∀src J H' G',Ts H H'->HR X.K H' G'->SJ H' src J->R src G'->Q J H'):=by
 intro pins s σ H Q I h;obtain⟨ρ,G,R,sr,g,q,kk⟩:=h;refine cR (he pins s σ H (λvx H1=>Ts H H1/\∃x G1,RD X.K H1 x vx/\HR X.K H1 G1/\a77 al x G1 R) I ⟨ρ,G,_,sr,g,q,λv H1 x G1 t1 r1 g1 q1=>⟨t1,x,G1,r1,g1,q1⟩⟩) ?_;rintro v s1 ⟨vx,H1,I1,r1,t1,x1,G1,rx,g1,q1⟩;obtain⟨a,t,kvs,rfl,q2⟩:=aq8 q1;cases rx;obtain rfl:v=aq.ref a:=r1
 have isd:IsD H1 a:=by
  rcases q2 with⟨e1,_⟩|⟨od,e1,_⟩
  .exact aq9 g1 e1
  .exact avY g1 e1
 obtain⟨od,en,ep,o1,o2,o3,hsm⟩:=aeY I1 isd;refine ac6 hsm ⟨od,o1,o2,o3⟩ ?_;have I3:Inv X pins σ H1 {s1 with heap:=s1.heap.push {cls:=.type "dict_keyiterator",data:=.fields #[.ref a,.int 0 0,.int en.size 0,.int ep 0]},toks:=s1.toks}:=I1.kept λb o e=>cg _ e;have od3:(s1.heap.push {cls:=.type "dict_keyiterator",data:=.fields #[.ref a,.int 0 0,.int en.size 0,.int ep 0]}).get? a=aj od:=cg _ o1;have hit:(s1.heap.push {cls:=.type "dict_keyiterator",data:=.fields #[.ref a,.int 0 0,.int en.size 0,.int ep 0]}).IsKeyIter s1.heap.objs.size a 0 en.size ep:=⟨_,ig _ rfl,rfl,rfl⟩;have fr1:H1 s1.heap.objs.size=bh:=I1.hok.fresh (dz _);rcases q2 with⟨e1,q3⟩|⟨od',e1,ha,q3⟩
 .obtain⟨u,hu,u1,u2,u3,u4,tt,g4⟩:=akC g1 e1 od;have I4:=I3.freeze hu u1 u2 u3 u4 od3;have na:s1.heap.objs.size≠a:=a0e (gw o1);refine⟨s1.heap.objs.size,[s1.heap.objs.size],_,ItK a od t,_,rfl,I4,(show Turn X.calm X.tp X.prog X.w X.K tg _ _ _ _ from hc ▸ aqA t o3),hit,λb hb=>?_,kk _ _ _ _ (t1.trans tt) g4 (hSJ _ a od t kvs λ_=>Fz.of I1 hu u1 u2 u3) (q3 od)⟩;have e:b=s1.heap.objs.size:=by simpa using hb
  subst e;exact I1.a08 (dz _) (by rw[aU na];exact fr1)
 .have od4:s1.heap.get? a=aj od':=by
   rcases g1 a _ e1 with⟨_,zs,e2,_⟩|⟨_,zs,e2,_⟩
   .exact(show s1.heap.get? a=aj od'/\_ from I1.hok a _ e2).1
   .exact(show s1.heap.get? a=aj od'/\_ from I1.hok a _ e2).1
  rw[o1]at od4;obtain rfl:=iz.inj od4;refine⟨s1.heap.objs.size,[s1.heap.objs.size],_,ItK a od t,_,rfl,I3,(show Turn X.calm X.tp X.prog X.w X.K tg _ _ _ _ from hc ▸ aqA t o3),hit,λb hb=>?_,kk _ _ _ _ t1 g1 (hSJ _ a od t kvs λz=>by rw[ha]at z;cases z) q3⟩;have e:b=s1.heap.objs.size:=by simpa using hb
  subst e;exact I1.a08 (dz _) fr1
theorem aCS(hc:X.calm=ak)(he:bY X e te):PI3 X tg e (oA ak te):=acG (SJ:=a95 X.K) hc he λ_ _ _ _ _ _=>aeW
theorem avZ(hc:X.calm=ak)(he:bY X e te):PIS X tg e (oA ak te):=acG (SJ:=λ_=>ac3 X.K) hc he λ_ _ _ _ _ _=>aeX
end
end
section
open PySem.W
structure Tt(H H':Hp):Prop where
 tups:∀a xs,H a=aj (.tup xs)->H' a=aj (.tup xs)
 aMZ:∀a o xs,H a=aj (.gF o (.tup xs))->H' a=aj (.gF o (.tup xs))
theorem Tt.sqT{K:Fg}(t:Tt H H')(h:yK K H a xs):yK K H' a xs:=by
 rcases h with(h|⟨o,h⟩)|h
 .exact .inl (.inl (t.tups _ _ h))
 .exact .inl (.inr ⟨o,t.aMZ _ _ _ h⟩)
 .exact .inr h
theorem adV.fB(t:Tt H H')(h:adV H a xs):adV H' a xs:=t.tups _ _ h
mutual
theorem RD.fB{K:Fg}{H H':Hp}(t:Tt H H'):∀{d:D}{v:V},RD K H d v->RD K H' d v
 |_,_,.non=>.non
 |_,_,.bl b=>.bl b
 |_,_,.int i=>.int i
 |_,_,.str x=>.str x
 |_,_,.ty n=>.ty n
 |_,_,.ref a=>.ref a
 |_,_,.tup h r e=>.tup (t.sqT h) (bW.fB t r) (e.fB t)
theorem bW.fB{K:Fg}{H H':Hp}(t:Tt H H'):∀{ds:List D}{vs:List V},bW K H ds vs->bW K H' ds vs
 |_,_,.nil=>.nil
 |_,_,.cons h r=>.cons (RD.fB t h) (bW.fB t r)
end
theorem SR.fB{K:Fg}(t:Tt H H'):∀{ρ:aO}{σ:St},SR K H ρ σ->SR K H' ρ σ
 |_,_,.nil=>.nil
 |_,_,.none r=>.none (SR.fB t r)
 |_,_,.some h r=>.some (h.fB t) (SR.fB t r)
theorem OR.az2{K:Fg}{o:GO}(t:Tt H H')(h:OR K H a o)(k:∀u,H a=aj u->H' a=aj u):OR K H' a o:=by
 cases o with
 |lst ds=>obtain⟨xs,e,r⟩:=h;exact⟨xs,k _ e,r.fB t⟩
 |rol ds =>
  obtain⟨xs,e,r⟩:=h;refine⟨xs,?_,r.fB t⟩;rcases e with(e|⟨o,e⟩)|e
  .exact .inl (.inl (k _ e))
  .exact .inl (.inr ⟨o,k _ e⟩)
  .exact .inr e
 |bC b kvs =>
  rcases h with⟨z,xs,e,r⟩|⟨z,xs,e,r⟩
  .exact .inl ⟨z,xs,k _ e,r.imp λ_ _ q=>⟨q.1,q.2.fB t⟩⟩
  .exact .inr ⟨z,xs,k _ e,r.imp λ_ _ q=>⟨q.1,q.2.fB t⟩⟩
 |ins C fs=>obtain⟨dx,vs,e,r⟩:=h;exact⟨dx,vs,k _ e,r.imp λ_ _ q=>⟨q.1,q.2.fB t⟩⟩
 |yM ob b kvs =>
  rcases h with⟨z,xs,e,r⟩|⟨z,xs,e,r⟩
  .exact .inl ⟨z,xs,k _ e,r.imp λ_ _ q=>⟨q.1,q.2.fB t⟩⟩
  .exact .inr ⟨z,xs,k _ e,r.imp λ_ _ q=>⟨q.1,q.2.fB t⟩⟩
 |exn C=>obtain⟨o,vs,e,r⟩:=h;exact⟨o,vs,k _ e,r⟩
 |tpl ds=>obtain⟨xs,e,r⟩:=h;exact⟨xs,t.sqT e,r.fB t⟩
 |uV kvs=>obtain⟨o,e,r⟩:=h;exact⟨o,k _ e,r.imp λ_ _ z=>z.fB t⟩
 |rnm ob kvs=>obtain⟨o,e,r⟩:=h;exact⟨o,k _ e,r.imp λ_ _ z=>z.fB t⟩
theorem aeZ{K:Fg}{t:Bool}(g:HR K H G)(e:G p=aj (.yM od t kvs)) :
  ∃u,H p=aj (.gF od u)/\(∀xs,u≠.tup xs)/\(∀ob w,u≠.gF ob w)/\IsD H p/\Tt H (upd H p u)/\HR K (upd H p u) (aH G p (.bC t kvs)):=by
 have key:∀u,H p=aj (.gF od u)->(∀xs,u≠.tup xs)->Tt H (upd H p u):=λu hu h1=>by
  refine⟨λa xs q=>?_,λa o xs q=>?_⟩
  .rw[aU];exact q;intro z;subst z;rw[hu]at q;cases q
  .rw[aU];exact q;intro z;subst z;rw[hu]at q;cases q;exact h1 xs rfl
 have rest:∀u,Tt H (upd H p u)->OR K (upd H p u) p (.bC t kvs)->HR K (upd H p u) (aH G p (.bC t kvs)):=λu tt new a v q=>by
  by_cases z:a=p
  .subst z;rw[aD]at q;obtain rfl:=iz.inj q;exact new
  .rw[aN z]at q;exact(g a v q).az2 tt λw y=>by rw[aU z];exact y
 rcases g p _ e with⟨z,xs,e2,tw⟩|⟨z,xs,e2,tw⟩
 .have tt:=key _ e2 (λxs z=>nomatch z);exact⟨_,e2,(λxs z=>nomatch z),(λob w z=>nomatch z),.inl ⟨xs,.inr ⟨od,e2⟩⟩,tt,rest _ tt (.inl ⟨z,xs,aK,tw.imp λ_ _ q=>⟨q.1,q.2.fB tt⟩⟩)⟩
 .have tt:=key _ e2 (λxs z=>nomatch z);exact⟨_,e2,(λxs z=>nomatch z),(λob w z=>nomatch z),.inr ⟨xs,.inr ⟨od,e2⟩⟩,tt,rest _ tt (.inr ⟨z,xs,aK,tw.imp λ_ _ q=>⟨q.1,q.2.fB tt⟩⟩)⟩
variable{od:Obj}
section
variable{pins:List (bw×Obj)}{s:dh}
theorem aqB(I:Inv X pins σ H s)(isd:IsD H p)(hu:H p=aj (.gF od u)):∃en ep,od.data=.dict en ep:=by
 obtain⟨od',en,ep,o1,_,o3,_⟩:=aeY I isd;have e:=(show s.heap.get? p=aj od/\_ from I.hok p _ hu).1;rw[e]at o1;cases o1;exact⟨en,ep,o3⟩
theorem Inv.acH(I:Inv X pins σ H s)(fz:Fz X p)(hu:H p=aj (.gF od u))(h1:∀xs,u≠.tup xs)(isd:∃en ep,od.data=.dict en ep):Inv X pins σ (upd H p u) s:=by
 have ne:∀{b:bw}{v:HO},H b=aj v->v≠.gF od u->b≠p:=λe n z=>by subst z;rw[hu]at e;exact n (iz.inj e).symm
 have no:∀{b:bw},H b=bh->upd H p u b=bh:=λ{b} e=>by
  rw[aU];exact e;intro z;subst z;rw[hu]at e;cases e
 have kt:∀b xs,H b=aj (.tup xs)->upd H p u b=aj (.tup xs):=λb xs q=>by rw[aU (ne q λz=>nomatch z)];exact q
 have ko:∀b x,H b=aj (.own x)->upd H p u b=aj (.own x):=λb x q=>by rw[aU (ne q λz=>nomatch z)];exact q
 obtain⟨ho,hok⟩:=(show s.heap.get? p=aj od/\dW X.prog X.w H s.heap p u from I.hok p _ hu);refine⟨I.ok,I.os,I.bare,⟨I.base.keep,I.base.slot,λb ob q n hx=>?_,I.base.there,λb xs q=>kt b xs (I.base.tups b xs q),λb ob w q=>?_,λb ps q=>?_⟩,I.loc,I.cell,no I.free,λx c e=>no (I.nF x c e),λq hq=>?_,λb v e=>?_,I.len,?_,λq hq=>kt _ _ (I.tup q hq)⟩
 .exact no (I.base.free b ob q n hx)
 .have:=I.base.jK b ob w q;rw[aU];exact this;intro z;subst z;exact fz.gF ob w q
 .obtain⟨more,e⟩:=I.base.sV b ps q;exact⟨more,by rw[aU (ne e λz=>nomatch z)];exact e⟩
 .obtain⟨z1,z2,z3⟩:=I.pin q hq;exact⟨z1,no z2,z3⟩
 .by_cases hb:b=p
  .subst hb;rw[aK]at e;obtain rfl:=iz.inj e;exact hok.stay (λ_ _ _ q=>q) (λc q=>ko c _ q) λc xs q=>kt c xs q
  .rw[aU hb]at e;exact(I.hok b v e).stay (λ_ _ _ q=>q) (λc q=>ko c _ q) λc xs q=>kt c xs q
 .rcases I.hnd with z|⟨x,o,w,vs,a,b,c,d⟩
  .exact .inl z
  .refine .inr ⟨x,o,w,vs,a,?_,c,d⟩;rw[aU];exact b;intro z;subst z;rw[hu]at b;cases b;obtain⟨en,ep,o3⟩:=isd;rw[o3]at c;cases c
end
noncomputable def Src.acH(G:Gp):Src->Gp
 |.itm p _ kvs=>aH G p (.bC ao kvs)
 |.key p _ t kvs=>aH G p (.bC t kvs)
 |_=>G
noncomputable def FzS(X:Cx):Src->Prop
 |.itm p _ _=>Fz X p
 |.key p _ _ _=>Fz X p
 |_=>True
noncomputable def aN1(X:Cx)(t:TI3):TI:=λσ H Q=>∃ρ G R,SR X.K H ρ σ/\HR X.K H G/\t ρ G R/\∀src J H' G',Ts H H'->HR X.K H' G'->(ac3 X.K src J/\FzS X src)->R src G'->Q J H'
abbrev PIF(X:Cx)(tg iter:jk)(t:TI3):Prop:=PI X tg iter (aN1 X t)
section
variable{X:Cx}
theorem aw0(hc:X.calm=ak)(he:bY X e te):PIF X tg e (oA ao te):=acG (SJ:=λ_ src J=>ac3 X.K src J/\FzS X src) hc he λ_ _ _ _ _ z=>⟨aeX,z rfl⟩
end
noncomputable def a5P(ti:TI3)(tg:TG3)(tb:bK):bK:=λF ρ G=>ti ρ G λsrc G1=>∃P:Nat->aO->Gp->Prop,P 0 ρ G1/\(∀k ρ G,k<=src.items.length->P k ρ G->src.ok G) /\
 (∀k d ρ G,src.items[k]?=aj d->P k ρ G->tg d ρ λρ2=>tb {F with nx:=P (k+1),ct:=P (k+1),bk:=λρ G=>src.ok G/\F.nx ρ (src.acH G)} ρ2 G)/\∀ρ G,P src.items.length ρ G->F.nx ρ (src.acH G)
def ThN(X:Cx)(E:cP)(σ:St)(H:Hp):Prop:=∃src ρ G,FzS X src/\SR X.K H ρ σ/\HR X.K H G/\src.ok G/\E.nx ρ (src.acH G)
theorem aqC{X:Cx}{F:Ends}(u:UpD X.K E F)(I:Inv X pins σ H s)(h:ThN X E σ H):∃H',Inv X pins σ H' s/\F.nx σ H':=by
 obtain⟨src,ρ,G,fz,sr,g,ok,q⟩:=h
 have one:∀{p:bw}{od:Obj}{t:Bool}{kvs:List (DK×D)},Fz X p->G p=aj (.yM od t kvs)->E.nx ρ (aH G p (.bC t kvs))->∃H',Inv X pins σ H' s/\F.nx σ H':=λfz e q=>by
  obtain⟨w,hw,w1,w2,isd,tt,g'⟩:=aeZ g e;exact⟨_,I.acH fz hw w1 (aqB I isd hw),u.nx _ _ _ _ (sr.fB tt) g' q⟩
 cases src with
 |itm p o kvs=>exact one fz ok q
 |key p o t kvs=>exact one fz ok q
 |lst p xs=>exact⟨H,I,u.nx _ _ _ _ sr g q⟩
 |imm xs=>exact⟨H,I,u.nx _ _ _ _ sr g q⟩
 |zip p r xs ys=>exact⟨H,I,u.nx _ _ _ _ sr g q⟩
 |tpl p xs=>exact⟨H,I,u.nx _ _ _ _ sr g q⟩
 |enu p xs=>exact⟨H,I,u.nx _ _ _ _ sr g q⟩
 |nky p o kvs=>exact⟨H,I,u.nx _ _ _ _ sr g q⟩
section
variable{X:Cx}
set_option tactic.hygienic true in
theorem aw1{tg:TG3}(hp:a1y (fj X.prog X.w) X.A X.env X.xe)(hi:PIF X tgt iter ti)(hg:PG3 X tgt tg)(hb:a4R X body tb)
  (hs:∀x,a1h iter X.env x=pure x):PS3 X (.For tgt iter body [] pos) (a5P ti tg tb):=by
 intro pins s σ H F I h;obtain⟨ρ,G,E,sr,g,q,d⟩:=h;have key:=anZ (pos:=pos) hp hi hg hb hs pins s σ H {F with nx:=ThN X E} I ⟨ρ,G,_,sr,g,q,λsrc J H1 G1 t1 g1 ⟨sj,fz⟩ ⟨P,p0,pok,pst,pend⟩=>?_⟩
 .refine cR key λf s' z=>?_;cases f with
  |next=>obtain⟨σ',H',J,z⟩:=z;obtain⟨H2,J2,z2⟩:=aqC d J z;exact⟨σ',H2,J2,z2⟩
  |brk=>obtain⟨σ',H',J,z⟩:=z;exact⟨σ',H',J,z⟩
  |cont=>obtain⟨σ',H',J,z⟩:=z;exact⟨σ',H',J,z⟩
  |ret w=>obtain⟨w,σ',H',J,r,z⟩:=z;exact⟨w,σ',H',J,r,z⟩
 .refine ae3 (K:=X.K) (n:=src.items.length) (λk σ2 H2=>∃ρ' G',SR X.K H2 ρ' σ2/\HR X.K H2 G'/\P k ρ' G') ⟨ρ,G1,sr.mono t1,g1,p0⟩ (λσ2 H2 ⟨ρ',G',s2,g2,p⟩=>?_) (λk σ2 H2 hk ⟨ρ',G',s2,g2,p⟩=>?_) (λk y σ2 H2 H3 hk ⟨ρ',G',s2,g2,p⟩ hy=>?_)
   (λσ2 H2 ⟨ρ',G',s2,g2,p⟩=>⟨src,ρ',G',fz,s2,g2,pok _ ρ' G' (dz _) p,pend ρ' G' p⟩)
  .exact(sj H2 G' g2 (pok _ ρ' G' (dz _) p)).2.2
  .exact(sj H2 G' g2 (pok _ ρ' G' (ux hk) p)).1 k hk
  .obtain⟨sm,dk,e1,e2⟩:=(sj H2 G' g2 (pok _ ρ' G' (ux hk) p)).2.1 k y H3 hk hy;refine⟨ρ',dk,_,s2.mono (.same sm),e2,pst k dk ρ' G' e1 p,λρ2 σ3 s3 q3=>?_⟩;exact⟨ρ2,G',_,s3,g2.same sm,q3,⟨λρ4 G4 σ4 H4 s4 g4 q4=>⟨ρ4,G4,s4,g4,q4⟩,d.rt,λρ4 G4 σ4 H4 s4 g4 q4=>⟨src,ρ4,G4,fz,s4,g4,q4.1,q4.2⟩,λρ4 G4 σ4 H4 s4 g4 q4=>⟨ρ4,G4,s4,g4,q4⟩⟩⟩
end
end
section
open PySem.W
section
end
end
section
section
open AutoSeq1 (wpAny_loadPart')
end
section
end
section
end
section
open PySem.SeqAt
open PySem.AutoSeq1 (wpAny_loadPart')
open PySem.MeetsSeq PySem.MeetsSeq2 PySem.MeetsSeq3
end
end
section
section
theorem a2Q{K:Fg}:∀{ns:List Int}{vs:List V},bW K H (ns.map D.int) vs->vs=ns.map V.int
 |[],_,.nil=>rfl
 |n::ns,_,.cons r rr=>by cases r;rw[a2Q rr];rfl
theorem aaH:∀(ns ms:List Int),o8 (ns.map D.int) (ms.map D.int)=decide (ns=ms)
 |[],[]=>rfl
 |[],_::_=>rfl
 |_::_,[]=>rfl
 |n::ns,m::ms=>by
  show(eqP (.int n) (.int m)&&o8 (ns.map D.int) (ms.map D.int))=_;rw[aaH ns ms];have:eqP (.int n) (.int m)=decide (n=m):=by rw[eqP];exact a2n.mpr (by simp)
  rw[this];simp[Bool.decide_and]
theorem aaI(n:Nat)(ns:List Int):aQ (n+1) (.tup (ns.map D.int))=ak:=by
 simp only[aQ,jy,dw];rintro x ⟨i,_,rfl⟩;cases n<;>rfl
end
end
section
section
open Classical in
end
end
section
open PySem.W
section
end
section
end
end
section
open PySem.W
noncomputable def putN(kvs:List (NK×Int))(k:NK)(n:Int):List (NK×Int):=if(kvs.lookup k).isSome then kvs.map (λp=>if p.1=k then(p.1,n)else p)else kvs++[(k,n)]
section
variable{K:Fg}{k:NK}{kvs:List (NK×Int)}
theorem aqD(r:Paired (adY K H) kvs xs):(kvs.lookup k=bh/\atKey xs k=bh)∨∃n p,kvs.lookup k=aj n/\atKey xs k=aj p/\∃t,p.2=aq.int n t:=by
 induction r with
 |nil=>exact .inl ⟨rfl,rfl⟩
 |@cons p x kvs xs h r ih =>
  obtain⟨m,d⟩:=p;obtain⟨h1,h2,h3⟩:=h;unfold atKey at ih ⊢;by_cases c:k=m
  .subst c;refine .inr ⟨d,x.2,by rw[ud,beq_self_eq_true],?_,h3⟩;rw[List.find?_cons_of_pos (by rw[h1];exact decide_eq_true rfl)];rfl
  .have c2:¬ x.1=k:=λe=>c (e.symm.trans h1);rw[List.find?_cons_of_neg (by simpa using c2),ud,show(k==m)=ao from beq_eq_false_iff_ne.mpr c];exact ih
theorem aCT(r:Paired (adY K H) kvs xs):∀x∈xs,RD K H (nkD x.1) (.ref x.2.1):=by
 induction r with
 |nil=>exact λx hx=>nomatch hx
 |cons h r ih =>
  intro x hx;rcases je.mp hx with rfl|hx
  .rw[h.1];exact h.2.1
  .exact ih x hx
theorem aCU{n:Int}{t:Tok}(r:Paired (adY K H) kvs xs)(sq:RD K H (nkD k) (.ref b)):Paired (adY K H) (putN kvs k n) (a0i xs k b (.int n t)):=by
 unfold putN;rcases aqD (k:=k) r with⟨z1,z2⟩|⟨d',p,z1,z2,_⟩
 .rw[z1,storedH_new z2];exact Paired.snoc r ⟨rfl,sq,t,rfl⟩
 .rw[z1,storedH_old z2];clear z1 z2;show Paired (adY K H) (kvs.map λp=>if p.1=k then(p.1,n)else p) _
  induction r with
  |nil=>exact .nil
  |@cons p x kvs xs h r ih =>
   rw[iy,iy];refine .cons ?_ ih;obtain⟨h1,h2,h3⟩:=h;by_cases c:p.1=k
   .rw[if_pos c];unfold putAt;rw[if_pos (by rw[h1];exact c)];exact⟨h1,h2,t,rfl⟩
   .rw[if_neg c];unfold putAt;rw[if_neg (by rw[h1];exact c)];exact⟨h1,h2,h3⟩
end
section
variable{X:Cx}{pins:List (bw×Obj)}{s:dh}
theorem akD{k:NK}(I:Inv X pins σ H s)(r:RD X.K H (nkD k) (.ref a)):a6C s.heap k a:=by
 unfold nkD at r;cases r with
 |@tup _ zs _ hq rz _ =>
  cases rz with
  |cons ra rb =>
  cases rb with
  |cons rb rn =>
  cases rn;cases rb;cases ra with
  |@tup b ys _ hb rbs _ =>
  have e:ys=k.1.map V.int:=a2Q rbs;subst e;obtain⟨its,r,⟨o,h1,h2,n,h3⟩,_⟩:=I.tuple hq;obtain⟨jts,r2,⟨o2,g1,g2,n2,g3⟩,_⟩:=I.tuple hb;cases r with
  |cons ra r =>
  cases r with
  |cons rb r =>
  cases r;cases ra;obtain⟨t,rfl⟩:=rb;refine⟨o,b,t,n,h1,h2,h3,λP w=>⟨o2,jts.toArray,n2,g1,g2,g3,?_⟩⟩;have e:k.1.map V.int=(k.1.map (Sum.inl:Int->Key)).map kV:=by rw[jt];rfl
  rw[e]at r2;simpa using a1Z r2
theorem aCV{w:jf}{x:NK×bw×aq}:entryOfKey (tD P w) x=entryOfKey (tD P' w') x:=by
 have e:(x.1.1.map (Sum.inl:Int->Key)).map (aF P w).hash=(x.1.1.map (Sum.inl:Int->Key)).map (aF P' w').hash:=by
  rw[jt,jt];rfl
 show(⟨reduceHash (Builtin.Tuple.tupleHashOf [reduceHash (Builtin.Tuple.tupleHashOf ((x.1.1.map (Sum.inl:Int->Key)).map (aF P w).hash)),(aF P w).hash (.inl x.1.2)]),_,_⟩:yj)=⟨reduceHash (Builtin.Tuple.tupleHashOf [reduceHash (Builtin.Tuple.tupleHashOf ((x.1.1.map (Sum.inl:Int->Key)).map (aF P' w').hash)),(aF P' w').hash (.inl x.1.2)]),_,_⟩;rw[e];rfl
theorem aaJ{o:HO}(I:Inv X pins σ H s)(hr:Rd H a o)(r:NOk X.K H a kvs o):∃xs,Paired (adY X.K H) kvs xs/\(a==nj)=ao/\s.heap.DictOfH (tD X.prog X.w) a xs:=by
 rcases r with⟨rfl,rfl⟩|⟨P,w,xs,rfl,r⟩
 .obtain⟨_,hd,ws,rel,o,es,ep,h1,h2,h3,h4,_⟩:=yL I.hok hr;cases rel;exact⟨[],.nil,hd,⟨o,es,ep,h1,h2,h3,h4,(λx hx=>nomatch hx),a0q⟩⟩
 .have z:dW X.prog X.w H s.heap a (.ext (auK P w a xs)):=by
   rcases hr with e|⟨o,e⟩
   .exact I.hok a _ e
   .exact(show s.heap.get? a=aj o/\_ from I.hok a _ e).2
  obtain⟨⟨hd,o,es,ep,h1,h2,h3,h4,h5⟩,_⟩:=z;have al:=aCT r;exact⟨xs,r,hd,⟨o,es,ep,h1,h2,h3,by rw[h4];exact um λx hx=>aCV,λx hx=>akD I (al x hx),h5⟩⟩
def nmG(G:Gp)(a:bw)(kvs:List (NK×Int)):Prop:=G a=aj (.uV kvs)∨∃od,G a=aj (.rnm od kvs)
theorem ahS(I:Inv X pins σ H s)(g:HR X.K H G)(h:nmG G a kvs):∃xs,Paired (adY X.K H) kvs xs/\(a==nj)=ao/\s.heap.DictOfH (tD X.prog X.w) a xs:=by
 rcases h with e|⟨od,e⟩
 .obtain⟨o,e2,r⟩:=g a _ e;exact aaJ I (.inl e2) r
 .obtain⟨o,e2,r⟩:=g a _ e;exact aaJ I (.inr ⟨od,e2⟩) r
theorem ahT{k:NK}{v:V}(r:RD X.K H (nkD k) v):∃a,v=.ref a:=by
 unfold nkD at r;cases r;exact⟨_,rfl⟩
end
section
variable{X:Cx}{o:jk}{to ti tv te tf:bV}{pos:Pos}
noncomputable def a5Q:bV:=λ_ G R=>∀p,G p=bh->R (.ref p) (aH G p (.uV []))
theorem aw2:bY X (.Dict [] [] pos) a5Q:=PE.imp (PE.kf adR) λσ H Q h=>by
 obtain⟨ρ,G,R,sr,g,q,k⟩:=h;intro p hp kf;exact k _ _ (.ref p) _ (.same (bG hp)) (.ref p) (g.put (u:=.uV []) hp ⟨_,aK,.inl ⟨rfl,rfl⟩⟩) (q p (gH g hp kf))
noncomputable def yQ:R3:=λx y G R=>match x with
 |.ref a=>∃k kvs n,y=nkD k/\nmG G a kvs/\kvs.lookup k=aj n/\R (.int n) G
 |_=>False
theorem aIS(hu:X.A.units+64<jl)(ho:bY X o to)(hi:bY X i ti)(hs:au4 i):bY X (.Subscript o i pos) (aL yQ to ti):=by
 intro pins s σ H Q I h;obtain⟨ρ,G,R,sr,g,t,k⟩:=h
 refine ajD PySem.F.slot_dict_getitem.lookup hs (cR (ho pins s σ H (λv H1=>Ts H H1/\∃x G1,RD X.K H1 x v/\HR X.K H1 G1/\ti ρ G1 λy G2=>yQ x y G2 R) I ⟨ρ,G,_,sr,g,t,λv H1 d G1 t1 r1 g1 q1=>⟨t1,d,G1,r1,g1,q1⟩⟩) λu s1 ⟨vx,H1,I1,rx,t1,x,G1,rdx,g1,q1⟩ =>
  cR (hi pins s1 σ H1 (λv H2=>Ts H1 H2/\∃y G2,RD X.K H2 y v/\HR X.K H2 G2/\yQ x y G2 R) I1 ⟨ρ,G1,_,sr.mono t1,g1,q1,λv H2 d G2 t2 r2 g2 q2=>⟨t2,d,G2,r2,g2,q2⟩⟩) λiv s2 ⟨vy,H2,I2,ry,t2,y,G2,rdy,g2,q2⟩=>?_)
 cases x with
 |ref ad =>
  obtain⟨kk,kvs,n,rfl,e1,e2,q2⟩:=q2;cases rdx;obtain rfl:u=aq.ref ad:=rx;obtain⟨b,rfl⟩:=ahT rdy;obtain rfl:iv=aq.ref b:=ry;obtain⟨xs,r,hd,dd⟩:=ahS I2 g2 e1;rcases aqD (k:=kk) r with⟨z,_⟩|⟨n',p,z1,z2,t',z3⟩
  .rw[z]at e2;cases e2
  .rw[z1]at e2;cases e2;exact⟨dd.typeIs,wpAny_getItem_heap (knd:=tD X.prog X.w) (by show X.A.units+1+8<jl;omega) (akD I2 rdy) dd z2 ⟨.int n,H2,I2.tok _,⟨t',z3⟩,k (.int n) H2 (.int n) G2 (t1.trans t2) (.int _) g2 q2⟩⟩
 |_=>exact q2.elim
def aqE(x y z:D)(G:Gp)(R:fZ):Prop:=match x with
 |.ref a=>∃k kvs m,y=nkD k/\z=.int m/\G a=aj (.uV kvs)/\R (.int ((kvs.lookup k).getD m)) G
 |_=>False
def isNm(x:D)(G:Gp):Prop:=match x with
 |.ref a=>∃kvs,G a=aj (.uV kvs)
 |_=>False
noncomputable def acI(to te tf:bV):bV:=λρ G R=>to ρ G λx G1=>isNm x G1/\te ρ G1 λy G2=>tf ρ G2 λz G3=>aqE x y z G3 R
theorem aCW(hu:X.A.units+64<jl)(ho:bY X o to)(he:bY X e te)(hf:bY X f tf)(m:M2 X o "get" apos e f cpos):bY X (.Call (.Attribute o "get" apos) [e,f] [] cpos) (acI to te tf):=by
 intro pins s σ H Q I h;obtain⟨ρ,G,R,sr,g,t,k⟩:=h;refine wpAny_Call_method m.base m.few m.line PySem.F.plainAttrs_dict PySem.F.slot_dict_get PySem.F.type_dict_get (cR (ho pins s σ H (λv H1=>Ts H H1/\∃x G1,RD X.K H1 x v/\HR X.K H1 G1/\isNm x G1/\te ρ G1 λy G2=>tf ρ G2 λz G3=>aqE x y z G3 R) I ⟨ρ,G,_,sr,g,t,λv H1 d G1 t1 r1 g1 q1=>⟨t1,d,G1,r1,g1,q1⟩⟩) ?_);rintro u s1 ⟨vx,H1,I1,rx,t1,x,G1,rdx,g1,isn,q1⟩;cases x with
 |ref a =>
  obtain⟨kv1,e1⟩:=isn;cases rdx;obtain rfl:u=aq.ref a:=rx;obtain⟨xs1,r1,hd,dd1⟩:=ahS I1 g1 (.inl e1);have ty:=dd1.typeIs;refine⟨ty,?_,?_⟩
  .intro a1 ea;cases ea;obtain⟨o1,es,ep,h1,h2,_⟩:=dd1;exact⟨o1,h1,h2.2.1⟩
  rw[m.trees]
  refine Calls.callWith_builtin rfl (Calls.evalArgs_plain (Calls.spliced_cons (cR (he pins s1 σ H1 (λv H2=>Ts H1 H2/\∃y G2,RD X.K H2 y v/\HR X.K H2 G2/\tf ρ G2 λz G3=>aqE (.ref a) y z G3 R) I1 ⟨ρ,G1,_,sr.mono t1,g1,q1,λv H2 d G2 t2 r2 g2 q2=>⟨t2,d,G2,r2,g2,q2⟩⟩) λiv s2 ⟨vy,H2,I2,ry,t2,y,G2,rdy,g2,q2⟩ =>
   Calls.spliced_cons (cR (hf pins s2 σ H2 (λv H3=>Ts H2 H3/\∃z G3,RD X.K H3 z v/\HR X.K H3 G3/\aqE (.ref a) y z G3 R) I2 ⟨ρ,G2,_,sr.mono (t1.trans t2),g2,q2,λv H3 d G3 t3 r3 g3 q3=>⟨t3,d,G3,r3,g3,q3⟩⟩) λfv s3 ⟨vz,H3,I3,rz,t3,z,G3,rdz,g3,q3⟩=>Calls.spliced_nil ?_))))
  obtain⟨kk,kvs,mm,rfl,rfl,e3,q3⟩:=q3;have rk:=rdy.mono t3;obtain⟨b,rfl⟩:=ahT rk;obtain rfl:iv=aq.ref b:=ry;cases rdz;obtain⟨tz,rfl⟩:=rz;obtain⟨xs,r,hd3,dd⟩:=ahS I3 g3 (.inl e3);refine call_meetsIn PySem.F.slot_dict_get dd.typeIs PySem.F.entry_dict_get (PySem.F.args_dict_get_3 _ _ _) (meetsH_dict_get_default (tD X.prog X.w) a b hd3 _) ⟨by show X.A.units+1+8<jl;omega,kk,xs,akD I3 rk,dd,?_⟩;rcases aqD (k:=kk) r with⟨z1,z2⟩|⟨n',p,z1,z2,t',z3⟩
  .rw[z2];rw[z1]at q3;exact⟨.int mm,H3,I3.tok _,⟨tz,rfl⟩,k (.int mm) H3 (.int mm) G3 ((t1.trans t2).trans t3) (.int _) g3 q3⟩
  .rw[z2];rw[z1]at q3;exact⟨.int n',H3,I3.tok _,⟨t',z3⟩,k (.int n') H3 (.int n') G3 ((t1.trans t2).trans t3) (.int _) g3 q3⟩
 |_=>exact isn.elim
def aqF(x y d:D)(F:cP)(ρ:aO)(G:Gp):Prop:=match x with
 |.ref a=>∃k kvs n,y=nkD k/\d=.int n/\G a=aj (.uV kvs)/\kvs.length<1000000/\F.nx ρ (aH G a (.uV (putN kvs k n)))
 |_=>False
noncomputable def acJ(to ti tv:bV):bK:=λF ρ G=>tv ρ G λv G1=>to ρ G1 λx G2=>ti ρ G2 λy G3=>aqF x y v F ρ G3
theorem aCX(hu:X.A.units+64<jl)(ho:bY X o to)(hi:bY X i ti)(hv:bY X value tv)(hs:a0z value (aj (.Subscript o i pos')) pos.line X.env=pure ao):PS3 X (.Assign [.Subscript o i pos'] value pos) (acJ to ti tv):=by
 intro pins s σ H D I h;obtain⟨ρ,G,F,sr,g,t,up⟩:=h;have big:1000000<cu:=by decide
 refine wpAny_Assign_Subscript (cR (hv pins s σ H (λv H1=>Ts H H1/\∃d G1,RD X.K H1 d v/\HR X.K H1 G1/\to ρ G1 λx G2=>ti ρ G2 λy G3=>aqF x y d F ρ G3) I ⟨ρ,G,_,sr,g,t,λv H1 d G1 t1 r1 g1 q1=>⟨t1,d,G1,r1,g1,q1⟩⟩) λr s1 ⟨v,H1,I1,rv,t1,d,G1,rd,g1,q1⟩ =>
  cR (ho pins s1 σ H1 (λv H2=>Ts H1 H2/\∃x G2,RD X.K H2 x v/\HR X.K H2 G2/\ti ρ G2 λy G3=>aqF x y d F ρ G3) I1 ⟨ρ,G1,_,sr.mono t1,g1,q1,λv H2 d G2 t2 r2 g2 q2=>⟨t2,d,G2,r2,g2,q2⟩⟩) λu s2 ⟨vx,H2,I2,rx,t2,x,G2,rdx,g2,q2⟩ =>
  cR (hi pins s2 σ H2 (λv H3=>Ts H2 H3/\∃y G3,RD X.K H3 y v/\HR X.K H3 G3/\aqF x y d F ρ G3) I2 ⟨ρ,G2,_,sr.mono (t1.trans t2),g2,q2,λv H3 d G3 t3 r3 g3 q3=>⟨t3,d,G3,r3,g3,q3⟩⟩) λiv s3 ⟨vy,H3,I3,ry,t3,y,G3,rdy,g3,q3⟩=>?_) hs
 cases x with
 |ref a =>
  obtain⟨kk,kvs,n,rfl,rfl,e1,lk,q3⟩:=q3;cases rdx;cases rd;obtain rfl:u=aq.ref a:=rx;obtain⟨tv',rfl⟩:=rv;obtain⟨b,rfl⟩:=ahT rdy;obtain rfl:iv=aq.ref b:=ry;obtain⟨o3,eo,ok⟩:=g3 a _ e1;obtain⟨xs,r0,hd,dd⟩:=aaJ I3 (.inl eo) ok;have no:=ok.no;have mu:Mut (aj o3):=by rcases ok with⟨_,rfl⟩|⟨_,_,_,rfl,_⟩<;>exact True.intro
  have lx:xs.length=kvs.length:=(Paired.length r0).symm;refine wpAny_setItem_heap (knd:=tD X.prog X.w) (by show X.A.units+1+8<jl;omega) (akD I3 rdy) dd (λh' dd' hs'=>?_) (by omega);have rp:=aCU (n:=n) (t:=tv') r0 rdy;generalize a0i xs kk b (aq.int n tv')=ys at dd' rp;obtain⟨q0,es,ep,z1,z2,z3,z4,_,z5⟩:=dd';have tt:Ts H3 (upd H3 a (.ext (auK X.prog X.w a ys))):=.turn eo no.1 no.2.1;refine⟨σ,_,sZ (t':=_) (ob:=.ext (auK X.prog X.w a ys)) I3 (by rw[eo];exact mu) hs' ⟨q0,z1⟩ ⟨⟨hd,q0,es,ep,z1,z2,z3,z4,z5⟩,⟨q0,z1⟩,λh1 h2 z kp=>?_⟩,up.nx ρ _ σ _ (sr.mono (((t1.trans t2).trans t3).trans tt)) (g3.turn (u:=.uV (putN kvs kk n)) tt ⟨_,aK,.inr ⟨X.prog,X.w,ys,rfl,Paired.z9 rp λ_ _ z=>⟨z.1,z.2.1.mono tt,z.2.2⟩⟩⟩) q3⟩;obtain⟨y0,o1,es1,ep1,y1,y2⟩:=z;exact⟨y0,o1,es1,ep1,kp _ y1,y2⟩
 |_=>exact q3.elim
end
end
section
open PySem.W
abbrev NFz(K:Fg)(H:Hp)(a:bw)(od:Obj)(kvs:List (NK×Int)):Prop:=∃o,H a=aj (.gF od o)/\NOk K H a kvs o
noncomputable def ItN(K:Fg)(a:bw)(od:Obj)(kvs:List (NK×Int)):It :=
 ⟨λi H=>NFz K H a od kvs/\i<kvs.length,λi H v H'=>H'=H/\∃k n,kvs[i]?=aj (k,n)/\RD K H (nkD k) v,λi H=>NFz K H a od kvs/\kvs.length<=i⟩
theorem ahU{α β:Type}{P:α->β->Prop}{as:List α}{bs:List β}(r:Paired P as bs):∀{i:Nat}{a:α},as[i]?=aj a->∃b,bs[i]?=aj b/\P a b:=by
 induction r with
 |nil=>intro i a e;simp at e
 |@cons a b _ _ h _ ih =>
  intro i c e;cases i with
  |zero=>simp only[zy,iz.injEq]at e;subst e;exact⟨b,rfl,h⟩
  |succ i=>simpa using ih (by simpa using e)
section
variable{X:Cx}{pins:List (bw×Obj)}{s:dh}
theorem akE{od:Obj}{kvs:List (NK×Int)}(I:Inv X pins σ H s)(hd:od.data=.dict en ep)(h:NFz X.K H a od kvs) :
  nH s.heap a en ep/\en.size=kvs.length/\∀(i:Nat)(k:NK)(n:Int),kvs[i]?=aj (k,n)->∃(e:yj)(q:bw),en[i]?=aj e/\e.key=aq.ref q/\RD X.K H (nkD k) (.ref q):=by
 obtain⟨o,hq,ok⟩:=h;have hod:=(show s.heap.get? a=aj od/\_ from I.hok a _ hq).1;obtain⟨xs,r,_,o1,es1,ep1,g1,g2,g3,g4,_⟩:=aaJ I (.inr ⟨od,hq⟩) ok;rw[hod]at g1;obtain rfl:=iz.inj g1;rw[hd]at g3;injection g3 with e1 e2;subst e1;have hl:en.size=xs.length:=by rw[←vo,g4,dj]
 refine⟨⟨od,hod,g2,hd⟩,by rw[hl];exact(Paired.length r).symm,λi k n e=>?_⟩;obtain⟨⟨k',q,u⟩,hx,h1,h2,_⟩:=ahU r e;refine⟨entryOfKey (tD X.prog X.w) (k',q,u),q,?_,rfl,h2⟩;rw[←a0k,g4,vp,hx];rfl
end
theorem aqG{w:jf}{K:Fg}{od:Obj}(hd:od.data=.dict en ep) :
  Turn ak tl P w K tg (ItN K a od kvs) [it] it (λi h=>h.IsKeyIter it a i en.size ep) where
 mem:=by simp
 obj:=λi h st b hb=>by
  have e:b=it:=by simpa using hb
  subst e;obtain⟨o,e,c,d⟩:=st;exact⟨o,e,λv z=>by rw[d]at z;cases z⟩
 keep:=λi h h' st k=>st.at λo e=>k it (by simp) o e
 item:=by
  intro X hP hw hK hcm ht i pins s σ H E I hf st hg;subst hP hw hK;obtain⟨nf,hi⟩:=hg;obtain⟨hm,hn,hk⟩:=akE I hd nf;have hx:kvs[i]?=aj (kvs[i].1,kvs[i].2):=gV hi;obtain⟨e,q,he,ek,hh⟩:=hk i _ _ hx;obtain⟨f0,f1,f2,f3,f4,f5⟩:=hf it (by simp);refine a5M st hm he λh' st' sb=>?_;have I1:Inv X pins σ H {s with heap:=h' }:=I.turned (t':=s.toks) (λb o hb e=>(sb.2 b hb).trans e) f0 f1 f3 f4 f5;obtain⟨o,e',c,d⟩:=id st';exact⟨_,rfl,a3S (s:={s with heap:=h' }) e' c d (by decide) ⟨.ref q,H,I1,ek,⟨rfl,_,_,hx,hh⟩,st',λb hb=>(hf b hb).1⟩⟩
 done:=by
  intro X hP hw hK hcm ht i pins s σ H E I hf st hg;subst hP hw hK;obtain⟨nf,hi⟩:=hg;obtain⟨hm,hn,hk⟩:=akE I hd nf;obtain⟨f0,f1,f2,f3,f4,f5⟩:=hf it (by simp);exact ac7 (I.ok.hd (hcm rfl)) st hm (by omega) λh' eb=>⟨rfl,I.turned (t':=s.toks) (λb o hb e=>eb b o hb e) f0 f1 f3 f4 f5⟩
 self:=λ_ _ _ _ _ st h=>wpAny_pyIter_keyiter st h
theorem aqH{K:Fg}:a95 K H1 (.nky p od kvs) (ItN K p od kvs):=λH2 G2 t g ok=>by
 have nf:NFz K H2 p od kvs:=g p _ (show G2 p=aj (.rnm od kvs)from ok);have hl:(Src.nky p od kvs).items.length=kvs.length:=by simp[Src.items]
 refine⟨λi hi=>⟨nf,by rw[hl]at hi;exact hi⟩,λi v H' hi hy=>?_,⟨nf,by rw[hl];exact dz _⟩⟩;obtain⟨rfl,k,n,e,r⟩:=hy;exact⟨.refl _,nkD k,by simp[Src.items,e],r⟩
def aqI(x:D)(G1:Gp)(R:Src->Gp->Prop):Prop:=match x with
 |.ref p=>∃kvs,G1 p=aj (.uV kvs)/\∀od,R (.nky p od kvs) (aH G1 p (.rnm od kvs))
 |_=>False
noncomputable def iY(te:bV):TI3:=λρ G R=>te ρ G λx G1=>aqI x G1 R
section
variable{X:Cx}
theorem aw3(hc:X.calm=ak)(he:bY X e te):PI3 X tg e (iY te):=by
 intro pins s σ H Q I h;obtain⟨ρ,G,R,sr,g,q,kk⟩:=h;refine cR (he pins s σ H (λvx H1=>Ts H H1/\∃x G1,RD X.K H1 x vx/\HR X.K H1 G1/\aqI x G1 R) I ⟨ρ,G,_,sr,g,q,λv H1 x G1 t1 r1 g1 q1=>⟨t1,x,G1,r1,g1,q1⟩⟩) ?_;rintro v s1 ⟨vx,H1,I1,r1,t1,x1,G1,rx,g1,q1⟩;cases x1 with
 |ref a =>
  obtain⟨kvs,e1,q3⟩:=q1;cases rx;obtain rfl:v=aq.ref a:=r1;obtain⟨u,hu,ok⟩:=g1 a _ e1;obtain⟨xs,_,hsm,od,en,ep,o1,o2,o3,_⟩:=aaJ I1 (.inl hu) ok;obtain⟨u1,u2,u3,u4⟩:=ok.no;refine ac6 hsm ⟨od,o1,o2,o3⟩ ?_;have I3:Inv X pins σ H1 {s1 with heap:=s1.heap.push {cls:=.type "dict_keyiterator",data:=.fields #[.ref a,.int 0 0,.int en.size 0,.int ep 0]},toks:=s1.toks}:=I1.kept λb o e=>cg _ e;have od3:(s1.heap.push {cls:=.type "dict_keyiterator",data:=.fields #[.ref a,.int 0 0,.int en.size 0,.int ep 0]}).get? a=aj od:=cg _ o1;have hit:(s1.heap.push {cls:=.type "dict_keyiterator",data:=.fields #[.ref a,.int 0 0,.int en.size 0,.int ep 0]}).IsKeyIter s1.heap.objs.size a 0 en.size ep:=⟨_,ig _ rfl,rfl,rfl⟩;have fr1:H1 s1.heap.objs.size=bh:=I1.hok.fresh (dz _);have tt:Ts H1 (upd H1 a (.gF od u)):=Ts.turn hu u1 u2;have g4:HR X.K (upd H1 a (.gF od u)) (aH G1 a (.rnm od kvs)):=g1.turn tt ⟨u,aK,ok.imp λ_ _ z=>z.mono tt⟩;have I4:=I3.freeze hu u1 u2 u3 u4 od3;have na:s1.heap.objs.size≠a:=a0e (gw o1);refine⟨s1.heap.objs.size,[s1.heap.objs.size],_,ItN X.K a od kvs,_,rfl,I4,(show Turn X.calm X.tp X.prog X.w X.K tg _ _ _ _ from hc ▸ aqG o3),hit,λb hb=>?_,kk _ _ _ _ (t1.trans tt) g4 aqH (q3 od)⟩;have e:b=s1.heap.objs.size:=by simpa using hb
  subst e;exact I1.a08 (dz _) (by rw[aU na];exact fr1)
 |_=>exact q1.elim
end
theorem aw4{K:Fg}(g:HR K H G)(e:G p=aj (.rnm od kvs)) :
  ∃u,H p=aj (.gF od u)/\(∀xs,u≠.tup xs)/\Tt H (upd H p u)/\HR K (upd H p u) (aH G p (.uV kvs)):=by
 obtain⟨u,hu,ok⟩:=g p _ e
 have tt:Tt H (upd H p u):=by
  refine⟨λa xs q=>?_,λa o xs q=>?_⟩
  .rw[aU];exact q;intro z;subst z;rw[hu]at q;cases q
  .rw[aU];exact q;intro z;subst z;rw[hu]at q;cases q;exact ok.no.1 xs rfl
 refine⟨u,hu,ok.no.1,tt,λa v q=>?_⟩;by_cases z:a=p
 .subst z;rw[aD]at q;obtain rfl:=iz.inj q;exact⟨u,aK,ok.imp λ_ _ z=>z.fB tt⟩
 .rw[aN z]at q;exact(g a v q).az2 tt λw y=>by rw[aU z];exact y
noncomputable def rJ(i:Nat)(te:bV):bV:=λρ G R=>∃p,at3 ρ i=aj (.ref p)/\((∃t kvs,G p=aj (.bC t kvs)/\te ρ G λd G1=>(∃od,G1 p=aj (.yM od t kvs))/\R d (aH G1 p (.bC t kvs)))∨∃kvs,G p=aj (.uV kvs)/\te ρ G λd G1=>(∃od,G1 p=aj (.rnm od kvs))/\R d (aH G1 p (.uV kvs)))
theorem aIU{i:Nat}(he:bY X e te):bY X e (rJ i te):=by
 intro pins s σ H Q I h;obtain⟨ρ,G,R,sr,g,⟨p,_,q⟩,kk⟩:=h
 have fin:∀{H1:Hp}{u:HO},(∀o w,H p≠aj (.gF o w))->Ts H H1->Tt H1 (upd H1 p u)->Ts H (upd H1 p u):=λnf t1 tt=>⟨λa xs z=>tt.tups _ _ (t1.tups _ _ z),λa o w z=>by
  rw[aU];exact t1.jK _ _ _ z;intro c;subst c;exact nf _ _ z⟩
 rcases q with⟨t,kvs,hp,q⟩|⟨kvs,hp,q⟩
 .obtain⟨w0,hw0,w1,w2,w3,_⟩:=akC g hp default;have fz:Fz X p:=Fz.of I hw0 w1 w2 w3;refine cR (he pins s σ H (λv H1=>Ts H H1/\∃d G1,RD X.K H1 d v/\HR X.K H1 G1/\(∃od,G1 p=aj (.yM od t kvs))/\R d (aH G1 p (.bC t kvs))) I ⟨ρ,G,_,sr,g,q,λv H1 d G1 t1 r1 g1 q1=>⟨t1,d,G1,r1,g1,q1.1,q1.2⟩⟩) ?_;rintro u s1 ⟨v,H1,I1,r1,t1,d,G1,rd,g1,⟨od,e1⟩,q1⟩;obtain⟨w,hw,v1,v2,isd,tt,g'⟩:=aeZ g1 e1;exact⟨v,_,I1.acH fz hw v1 (aqB I1 isd hw),r1,kk v _ d _ (fin (λo x z=>by rw[hw0]at z;exact w2 _ _ (iz.inj z)) t1 tt) (rd.fB tt) g' q1⟩
 .obtain⟨w0,hw0,ok⟩:=g p _ hp;obtain⟨w1,w2,w3,w4⟩:=ok.no;have fz:Fz X p:=Fz.of I hw0 w1 w2 w3;refine cR (he pins s σ H (λv H1=>Ts H H1/\∃d G1,RD X.K H1 d v/\HR X.K H1 G1/\(∃od,G1 p=aj (.rnm od kvs))/\R d (aH G1 p (.uV kvs))) I ⟨ρ,G,_,sr,g,q,λv H1 d G1 t1 r1 g1 q1=>⟨t1,d,G1,r1,g1,q1.1,q1.2⟩⟩) ?_;rintro u s1 ⟨v,H1,I1,r1,t1,d,G1,rd,g1,⟨od,e1⟩,q1⟩;obtain⟨w,hw,v1,tt,g'⟩:=aw4 g1 e1
  have isd:∃en ep,od.data=.dict en ep:=by
   obtain⟨o,hq,ok'⟩:=g1 p _ e1;have hod:=(show s1.heap.get? p=aj od/\_ from I1.hok p _ hq).1;obtain⟨xs,_,_,o1,es1,ep1,g1',_,g3,_⟩:=aaJ I1 (.inr ⟨od,hq⟩) ok';rw[hod]at g1';cases g1';exact⟨_,_,g3⟩
  exact⟨v,_,I1.acH fz hw v1 isd,r1,kk v _ d _ (fin (λo x z=>by rw[hw0]at z;exact w2 _ _ (iz.inj z)) t1 tt) (rd.fB tt) g' q1⟩
end
section
open PySem.W
noncomputable def ltN(a b:NK):Bool:=if a.1=b.1 then decide (a.2<b.2)else HT.lexLt a.1 b.1
section
variable{X:Cx}{pins:List (bw×Obj)}{s:dh}
theorem a78(I:Inv X pins σ H s){k:NK}{v:V}(r:RD X.K H (nkD k) v)(rv:RelV v u):∃a o n b t,u=.ref a/\s.heap.get? a=aj o/\o.cls=aq.type "tuple"/\o.data=.seq #[.ref b,.int k.2 t] n/\RD X.K H (.tup (k.1.map D.int)) (.ref b):=by
 unfold nkD at r;cases r with
 |@tup a zs _ hq rz _ =>
  obtain rfl:u=aq.ref a:=rv;obtain⟨its,vi,⟨o,h1,h2,n,h3⟩,_⟩:=I.tuple hq;cases rz with
  |cons ra rb =>
  cases rb with
  |cons rb rn =>
  cases rn;cases rb;cases vi with
  |cons va vb =>
  cases vb with
  |cons vb vn =>
  cases vn;obtain⟨t,rfl⟩:=vb;cases ra with
  |@tup b ys _ hb rbs eb =>
  cases va;exact⟨a,o,n,b,t,rfl,h1,h2,h3,.tup hb rbs eb⟩
theorem akF(I:Inv X pins σ H s){ns:List Int}(r:RD X.K H (.tup (ns.map D.int)) (.ref b)):∃its,IsTup s.heap b its/\a0w its.toList ns:=by
 cases r with
 |@tup _ ys _ hb rbs eb =>
  obtain⟨its,vi,p,_⟩:=I.tuple hb;have e:ys=ns.map V.int:=a2Q rbs;subst e;exact⟨its.toArray,p,by simpa using intsAre_of vi⟩
theorem aaK(I:Inv X pins σ H s):∀{ks:List NK}{xs:List V}{us:List aq},bW X.K H (ks.map nkD) xs->Vals xs us->∃fs:List aq,KatTups s.heap us fs/\fs.length=ks.length/\∀v∈fs,∃b o,v=.ref b/\s.heap.get? b=aj o/\o.cls=aq.type "tuple"
 |[],_,_,.nil,.nil=>⟨[],trivial,rfl,λv h=>by cases h⟩
 |k::ks,_,_,.cons r rs,.cons v vs=>by
  obtain⟨fs,k1,k2,k3⟩:=aaK I rs vs;obtain⟨a,o,n,b,t,rfl,h1,h2,h3,rb⟩:=a78 I r v;refine⟨.ref b::fs,KatTups.cons h1 h2 h3 rfl k1,by simp[k2],λu hu=>?_⟩;rcases je.mp hu with rfl|hu
  .cases rb with
   |@tup _ ys _ hb rbs eb =>
    obtain⟨its,vi,⟨o2,q1,q2,_⟩,_⟩:=I.tuple hb;exact⟨b,o2,rfl,q1,q2⟩
  .exact k3 u hu
theorem aCY(I:Inv X pins σ H s)(hu:A.units+32<jl){ks:List NK}{us:List aq}(r:bW X.K H (ks.map nkD) xs)(rv:Vals xs us)(l2:2<=us.length){kf:Nat->Int}(hkf:∀i j a b,ks[i]?=aj a->ks[j]?=aj b->ltN a b=decide (kf i<kf j)) :
  ∃κ,(∀Q:SortKind->dh->Prop,Q κ s->dg (fj X.prog X.w) A (keyKind' us.toArray) Q (λ_ _=>False) s)/\∀i j (C:Bool->dh->Prop),i<us.length->j<us.length->C (decide (kf i<kf j)) s->kas_ask X.prog X.w A κ us i j C s:=by
 obtain⟨fs,k1,k2,k3⟩:=aaK I r rv;have lx:xs.length=ks.length:=by rw[←r.length,dj]
 have len:us.length=ks.length:=by rw[←rv.length,lx]
 refine⟨tuples' (aq.type "tuple"!=aq.type "tuple"),λQ hQ=>kat_kind k1 (by omega) (λv hv=>?_) (by simp) hQ,λi j C hi hj hC=>?_⟩
 .obtain⟨b,o,rfl,q1,q2⟩:=k3 v hv;rw[←q2];exact(Looks.ld q1).andThen .now
 .have get:∀i,i<us.length->∃k v,ks[i]?=aj k/\RD X.K H (nkD k) v/\RelV v (us.getD i aq.none):=λi hi=>by
   obtain⟨v,e1,rd⟩:=r.get (i:=i) (d:=nkD (ks[i]'(by omega))) (by simp[vp,gV (show i<ks.length by omega)]);obtain⟨u,e2,ru⟩:=rv.get e1;exact⟨_,v,gV (by omega),rd,by simpa[qz,e2]using ru⟩
  obtain⟨ka,va,ea,ra,ua⟩:=get i hi;obtain⟨kb,vb,eb,rb,ub⟩:=get j hj;obtain⟨a,o,n,b,t,ga,h1,h2,h3,rb1⟩:=a78 I ra ua;obtain⟨a',o',n',b',t',gb,g1,g2,g3,rb2⟩:=a78 I rb ub;rw[←hkf i j ka kb ea eb]at hC;unfold kas_ask;rw[ga,gb,show(aq.type "tuple"!=aq.type "tuple")=ao by simp];obtain⟨i1,p1,q1⟩:=akF I rb1;obtain⟨i2,p2,q2⟩:=akF I rb2;refine kat_lt h1 h3 g1 g3 ?_;show KatLex X.prog X.w A ao _ C [(.ref b,.ref b'),(.int ka.2 t,.int kb.2 t')] 0 s;unfold ltN at hC;have E1:=zG I 8 A _ _ _ _ (.ref b) (.ref b') (by omega) (aaI 7 ka.1) (aaI 7 kb.1) rb1 rb2 rfl rfl;rw[eqP,aaH]at E1;refine kat_cons (E1 _ _ _ _ (kat_go (λe=>kat_yes (kat_cons (wpAny_eqBool_int (kat_go (λe3=>kat_yes (kat_nil ?_)) λe3=>kat_no (kat_one _ _ ?_))))) λe=>kat_no (kat_one _ _ (HT.ah9 p1 p2 q1 q2 (by omega) ?_))))
  .rw[if_pos (of_decide_eq_true e)]at hC;have:ka.2=kb.2:=by simpa using e3
   rw[this]at hC;simpa using hC
  .rw[if_pos (of_decide_eq_true e)]at hC;exact HT.adS _ _ _ _ _ _ _ _ _ _ hC
  .rw[if_neg (of_decide_eq_false e)]at hC;exact hC
end
section
variable{X:Cx}
def aIV(ds:List D)(G:Gp)(R:fZ):Prop:=∃(ks:List NK)(kf:Nat->Int),ds=ks.map nkD/\ks.length<64/\(∀i j a b,ks[i]?=aj a->ks[j]?=aj b->ltN a b=decide (kf i<kf j))/\(∀i j,i<ks.length->j<ks.length->kf i=kf j->i=j)/\∀q:Array Nat,Pm ks.length q->Up kf q ks.length->∀r,G r=bh->R (.ref r) (aH G r (.lst (q.toList.map λi=>ds.getD i .non)))
noncomputable def a0P:List D->Gp->fZ->Prop:=λxs G R=>match xs with
 |[.ref a]=>∃ds,aY G a=aj ds/\aIV ds G R
 |_=>False
theorem aaL{K:Fg}{ds:List D}{xs:List V}(r:bW K H ds xs):∀{l:List Nat},(∀i∈l,i<ds.length)->bW K H (l.map λi=>ds.getD i .non) (l.map λi=>xs.getD i .non)
 |[],_=>.nil
 |i::l,h=>by
  have hi:=h i (by simp);obtain⟨v,e1,rd⟩:=r.get (gV hi);have e2:ds.getD i .non=ds[i]:=by simp[qz,hi]
  have e3:xs.getD i .non=v:=by simp[qz,e1]
  refine .cons ?_ (aaL r λj hj=>h j (by simp[hj]));show RD K H (ds.getD i .non) (xs.getD i .non);rw[e2,e3];exact rd
set_option tactic.hygienic true in
theorem aw5(hu:X.A.units+64<jl):d8 X (.builtin "sorted") a0P:=by
 intro pins s σ H xs vs us G R Q I rx rv g q k;have big:1000<cu:=by decide
 unfold a0P at q;split at q
 .rename_i a;obtain⟨ds,e1,ks,kf,rfl,h64,hkf,hd,h⟩:=q;cases rx with
  |cons r1 rr =>
  cases rr;cases r1;cases rv with
  |cons rv rr =>
  cases rr;cases rv;obtain⟨zs,hq,r⟩:=bU g e1;obtain⟨its,vi,pl,_⟩:=I.list hq;have lz:zs.length=ks.length:=by rw[←r.length,dj]
  have li:its.length=ks.length:=by rw[←vi.length,lz]
  refine aeO (kf:=kf) pl.isList (by omega) (λi j hi hj e=>hd i j (by omega) (by omega) e) (λl2 h' kp=>aCY (s:={s with heap:=h' }) (I.kept (t':=s.toks) kp) (by show X.A.units+1+1+32<jl;omega) r vi l2 hkf) λq P u=>?_;rw[li]at P u;have hin:∀i∈q.toList,i<ks.length:=λi hi=>xg.mp (P.perm.mem_iff.mp hi);have fr:H (s.heap.objs.size+1)=bh:=I.hok.fresh (a1e _);have sn:Same H (upd H (s.heap.objs.size+1) (.lst (q.toList.map λi=>zs.getD i .non))):=bG fr;obtain⟨c,hc⟩:=apR (h:=s.heap) (vs:=its) (out:=(q.toList.map λi=>its.getD i aq.none).toArray)
  have J:Inv X pins σ (upd H (s.heap.objs.size+1) (.lst (q.toList.map λi=>zs.getD i .non))) {s with heap:=sortedAll s.heap its (q.toList.map λi=>its.getD i aq.none).toArray} :=
   I.laid (t':=s.toks) (λb o e=>ajZ e) (a1e _) ⟨by rw[dj,vo,P.size];omega,_,c,xF vi λi hi=>by rw[lz];exact hin i hi,hc⟩
  exact⟨.ref (s.heap.objs.size+1),_,J,rfl,k _ _ (.ref _) _ (.same sn) (.ref _) (g.put (u:=.lst _) fr ⟨_,aK,(aaL r λi hi=>by rw[dj];exact hin i hi).mono (.same sn)⟩) (h q P u _ (gH g fr (nG J)))⟩
 .exact q.elim
end
end
section
open PySem.W
section
variable{X:Cx}
theorem ahV{σ:St}{H:Hp}{c:Nat}(I:Inv X pins σ H s)(k:∀b u,s.heap.get? b=aj u->h1.get? b=aj u){ys:Nat->List V}(nd:as.Nodup)(hi:∀a∈as,s.heap.objs.size<a)
  (ht:∀j a,as[j]?=aj a->Vals (ys j) (us j)/\(ys j).length<=cu/\IsTup h1 a (us j).toArray)(hl:as.length<=cu)(hS:h1.get? s.heap.objs.size=aj (kj "list" (as.map aq.ref).toArray c)) :
  ∃H1,Inv X pins σ H1 {s with heap:=h1,toks:=tk}/\Same H H1/\H1 s.heap.objs.size=aj (.lst (as.map V.ref))/\∀j a,as[j]?=aj a->H1 a=aj (.tup (ys j)):=by
 have fr:∀a∈as,H a=bh:=λa ha=>I.hok.fresh (ux (hi a ha));have f0:H s.heap.objs.size=bh:=I.hok.fresh (dz _)
 let H1:Hp:=λb=>if b=s.heap.objs.size then aj (.lst (as.map V.ref))else if b∈as then aj (.tup (ys (as.idxOf b)))else H b
 have e0:H1 s.heap.objs.size=aj (.lst (as.map V.ref)):=if_pos rfl;have e1:∀{b},b≠s.heap.objs.size->H1 b=if b∈as then aj (.tup (ys (as.idxOf b)))else H b:=λn=>if_neg n
 have sm:Same H H1:=λb o e=>by
  rw[e1 (λz=>by rw[z,f0]at e;cases e),if_neg (λz=>by rw[fr b z]at e;cases e)];exact e
 have at1:∀j a,as[j]?=aj a->H1 a=aj (.tup (ys j)):=λj a e=>by
  obtain⟨hj,e2⟩:=ji.mp e;have ma:=jx e;rw[e1 (a0e (hi a ma)),if_pos ma,←e2,nd.idxOf_getElem]
 refine⟨H1,I.grown k sm λb u e=>?_,sm,e0,at1⟩;by_cases y:b=s.heap.objs.size
 .subst y;rw[e0]at e;cases e;exact .inr ⟨dz _,by rw[dj];exact hl,_,c,acD as,hS⟩
 .by_cases z:b∈as
  .right;refine⟨ux (hi b z),?_⟩;obtain⟨j,hj⟩:=List.mem_iff_getElem?.mp z;rw[at1 j b hj]at e;cases e;obtain⟨t1,t2,t3⟩:=ht j b hj;exact⟨t2,us j,t1,t3⟩
  .left;rw[e1 y,if_neg z]at e;exact e
def a5R(x:D)(G:Gp)(R:fZ):Prop:=match x with
 |.ref a=>∃ps:List (Int×Int),G a=aj (.bC ao (ps.map jJ))/\ps.length<1000000/\∀l,G l=bh->R (.ref l) (aH G l (.lst (ps.map cY)))
 |_=>False
noncomputable def a5S(to:bV):bV:=λρ G R=>to ρ G λx G1=>a5R x G1 R
theorem aw6{x:Str}{apos cpos p:Pos}(hc:X.calm=ak)(ho:bY X o to)(hg:Gl X x)(hm:X.mg x=bh)(hv:ni x=aj (.type "list"))(hn:x≠"__name__")(hdb:(x==("__debug__":Str))=ao)
  (hbase:uh o "items" X.env (eval o X.env)=eval o X.env)(hline:(apos.endLine==cpos.line)=ak) :
  bY X (.Call (.Name x p) [.Call (.Attribute o "items" apos) [] [] cpos] [] pos) (a5S to):=by
 intro pins s σ H Q I h;have big:1000000<cu:=by decide
 obtain⟨ρ,G,R,sr,g,q,kk⟩:=h;refine wg (zA I hg hm hv ?_ hn hdb);refine PyProof.Rows.callWith_type1 (Calls.spliced_cons ?_);refine zx hbase hline (cR (ho pins s σ H (λvx H1=>Ts H H1/\∃x G1,RD X.K H1 x vx/\HR X.K H1 G1/\a5R x G1 R) I ⟨ρ,G,_,sr,g,q,λv H1 x G1 t1 r1 g1 q1=>⟨t1,x,G1,r1,g1,q1⟩⟩) ?_);rintro v s1 ⟨vx,H1,I1,r1,t1,x1,G1,rx,g1,q1⟩;cases x1 with
 |ref a =>
  obtain⟨ps,e1,pl,hq⟩:=q1;cases rx;obtain rfl:v=aq.ref a:=r1;rcases g1 a _ e1 with⟨_,ys,ed,tw⟩|⟨z,_⟩
  .have ey:=a71 tw;subst ey;obtain⟨h1,h2,h3⟩:=a2A I1 (.inl ⟨_,.inl ed⟩);refine⟨"dict","dict.items",PySem.F.plainAttrs_dict,PySem.F.slot_dict_items,PySem.F.type_dict_items,h1,h2,Calls.callWith_builtin rfl (PySem.evalArgs_none ?_)⟩;obtain⟨z1,hsm,vs,kv,hd⟩:=a3V I1.hok ed;refine call_meetsIn PySem.F.slot_dict_items h1 PySem.F.entry_dict_items (PySem.F.args_dict_items_1 _) (meets_dict_items (aF X.prog X.w) a hsm) ⟨⟨vs,hd⟩,?_⟩;refine Calls.spliced_nil ?_;obtain⟨l1,l2,l3⟩:=a0N kv;obtain⟨o,es,ep,q1,q2,q3,q4,q5,q6⟩:=hd;have I2:Inv X pins σ H1 {s1 with heap:=s1.heap.push {cls:=.type "dict_items",data:=.fields #[.ref a]},toks:=s1.toks}:=I1.kept λb o e=>cg _ e;have hat:(s1.heap.push {cls:=.type "dict_items",data:=.fields #[.ref a]}).DictAt (aF X.prog X.w) a vs ep:=⟨o,es,cg _ q1,q2,q3,q4,q5,q6⟩;have hvw:(s1.heap.push {cls:=.type "dict_items",data:=.fields #[.ref a]}).IsItemsView s1.heap.objs.size a:=⟨_,ig _ rfl,rfl,rfl⟩;generalize s1.heap.push {cls:=.type "dict_items",data:=.fields #[.ref a]}=hp at *;refine kdx_call (s:={s1 with heap:=hp}) (knd:=aF X.prog X.w) (I1.ok.hd hc) hvw hat (by omega) λh' tk acc c as k2 hS hl hG hacc=>?_
   have ex:∀j:Nat,∃uu:List aq,∀b,as[j]?=aj b->Vals [V.int (ps.getD j (0,0)).1,V.int (ps.getD j (0,0)).2] uu/\IsTup h' b uu.toArray:=λj=>by
    cases ea:as[j]? with
    |none=>exact⟨[],λb z=>by cases z⟩
    |some b =>
     obtain⟨key,kk,x,p1,p2,p3⟩:=hG.pairs j b ea;have hj:j<ps.length:=by rw[←l1,←hl];exact(ji.mp ea).1
     obtain⟨t,p4⟩:=l3 j ps[j] (gV hj);rw[p4]at p1;cases p1;have gd:ps.getD j (0,0)=ps[j]:=getD_at hj;refine⟨[key,aq.int ps[j].2 t],λb' z=>?_⟩;cases z;rw[gd];refine⟨.cons ?_ (.cons ⟨t,rfl⟩ .nil),⟨_,p3,rfl,_,rfl⟩⟩;rcases cG (show a07 (Sum.inl ps[j].1) key=ak from p2)with⟨i,t',e1,e2⟩|⟨i,t',e1,e2⟩
     .cases e1;exact⟨t',e2⟩
     .cases e1
   obtain⟨us,hus⟩:=Classical.axiomOfChoice ex;have la:as.length=ps.length:=hl.trans l1;have hS2:h'.get? hp.objs.size=aj (kj "list" (as.map aq.ref).toArray c):=by rw[←hacc];simpa using hS
   obtain⟨H2,J,sm,e0,at1⟩:=ahV (tk:=tk) (c:=c) I2 k2 (as:=as) (ys:=λj=>[V.int (ps.getD j (0,0)).1,V.int (ps.getD j (0,0)).2]) (us:=us) (hG.rise.imp jc) (λb hb=>hG.above b hb) (λj b e=>⟨(hus j b e).1,by show 2<=cu;omega,(hus j b e).2⟩) (by omega) hS2
   have rds:bW X.K H2 (ps.map cY) (as.map V.ref):=a72 la λj b p e1 e2=>by
    have z:=at1 j b e1;obtain⟨hj,e3⟩:=ji.mp e2;rw[getD_at hj,e3]at z;exact z
   have fr:H1 hp.objs.size=bh:=I2.hok.fresh (dz _);refine⟨.ref hp.objs.size,_,J,rfl,kk _ _ (.ref _) _ (t1.trans (.same sm)) (.ref _) (λb u e=>?_) (hq _ (gH (o:=.lst []) g1 fr λb o e=>by rw[aU (λz=>by have:=nG J b o e;rw[z,e0]at this;cases this)];exact nG I2 b o e))⟩;by_cases y:b=hp.objs.size
   .subst y;rw[aD]at e;cases e;exact⟨_,e0,rds⟩
   .rw[aN y]at e;exact(g1 b u e).keep (.same sm) λw z=>sm b w z
  .cases z
 |_=>exact q1.elim
noncomputable def a0Q:List D->Gp->fZ->Prop:=λxs G R=>match xs with
 |[.ref a]=>∃t kvs,vM G a=aj (t,kvs)/\t=ao/\kvs.length<1000000/\∀r,G r=bh->R (.ref r) (aH G r (.bC ao kvs))
 |_=>False
set_option tactic.hygienic true in
theorem aw7:d8 X (.type "dict") a0Q:=by
 intro pins s σ H xs vs us G R Q I rx rv g q k;have big:1000000<cu:=by decide
 unfold a0Q at q;split at q
 .rename_i a;obtain⟨t,kvs,e1,rfl,hl,q⟩:=q;cases rx with
  |cons r1 rr =>
  cases rr;cases r1;cases rv with
  |cons rv rr =>
  cases rr;cases rv;rcases aeK g e1 with⟨_,ys,ed,tw⟩|⟨z,_⟩
  .obtain⟨z1,hsm,ws,kv,hd⟩:=uE I.hok ed;refine kt_call_dict hsm hd (by rw[←Paired.length kv];exact z1) λh' dd sb=>?_;have fr:H s.heap.objs.size=bh:=I.hok.fresh (dz _);have sn:Same H (upd H s.heap.objs.size (.dK ys)):=bG fr;have J:Inv X pins σ (upd H s.heap.objs.size (.dK ys)) {s with heap:=h' }:=I.laid (t':=s.toks) (o:=.dK ys) (λb o e=>(sb.2 b (jc (gw e))).trans (cg _ e)) (dz _) (abJ z1 (beq_eq_false_iff_ne.mpr (Ne.symm (jc I.big))) kv dd);exact⟨.ref s.heap.objs.size,_,J,rfl,k _ _ (.ref _) _ (.same sn) (.ref _) (g.put (u:=.bC ao kvs) fr (.inl ⟨rfl,ys,aK,tw.imp λ_ _ z=>⟨z.1,z.2.mono (.same sn)⟩⟩)) (q _ (gH g fr (nG J)))⟩
  .cases z
 .exact q.elim
end
end
section
open PySem.W
variable{M:List (List Key×bw)}
section
variable{w:jf}{h:jj}{a:bw}
theorem aaM:∀{ks:List Key}{vs:List aq},ItemsAre (aF P w) ks vs->ItemsAre (aF P' w') ks vs
 |_,_,.nil=>.nil
 |_,_,.cons h r=>.cons h (aaM r)
theorem aaN:∀{es:List yj}{kvs:List (Key×aq)},Pairs (aF P w) es kvs->(∀z∈kvs,∃i,z.1=.inl i)->(∀e∈es,∃k,(aF P w).is k e.key=ak/\e.hash=(aF P w).hash k)->Pairs (aF P' w') es kvs/\∀e∈es,∃k,(aF P' w').is k e.key=ak/\e.hash=(aF P' w').hash k
 |_,_,.nil,_,_=>⟨.nil,λ_ h=>nomatch h⟩
 |e::es,kv::kvs,.cons h1 h2 r,ht,hk=>by
  obtain⟨q1,q2⟩:=aaN r (λz hz=>ht z (jq _ hz)) λe he=>hk e (jq _ he);refine⟨.cons h1 h2 q1,λx hx=>?_⟩;rcases je.mp hx with rfl|hx
  .obtain⟨k,k1,k2⟩:=hk x (su ..);obtain⟨i,ei⟩:=ht kv (su ..);obtain rfl:=(aF P w).inj _ _ _ k1 h1;refine⟨kv.1,h1,?_⟩;rw[k2,ei];rfl
  .exact q2 x hx
theorem aqJ(d:h.DictOf (aF P w) a kvs)(ht:∀z∈kvs,∃i,z.1=.inl i):h.DictOf (aF P' w') a kvs:=by
 obtain⟨o,es,ep,h1,h2,h3,h4,h5,h6⟩:=d;obtain⟨q1,q2⟩:=aaN (P':=P') (w':=w') h5 ht λe he=>h4 e (a2k.mp he);exact⟨o,es,ep,h1,h2,h3,λe he=>q2 e (a2k.mpr he),q1,h6⟩
theorem aqK(d:h.DictOfH (a0d (aF P w)) a xs)(ht:∀z∈xs,∃is:List Int,z.1=is.map .inl):h.DictOfH (a0d (aF P' w')) a xs:=by
 obtain⟨o,es,ep,h1,h2,h3,h4,h5,h6⟩:=d;refine⟨o,es,ep,h1,h2,h3,?_,λx hx=>?_,h6⟩
 .rw[h4];refine um λx hx=>?_;obtain⟨is,e⟩:=ht x hx;obtain⟨k,u⟩:=x;obtain rfl:k=is.map .inl:=e
  have e2:((is.map Sum.inl:List Key).map (aF P w).hash)=(is.map Sum.inl:List Key).map (aF P' w').hash:=by
   rw[jt,jt];rfl
  show(⟨reduceHash (Builtin.Tuple.tupleHashOf ((is.map Sum.inl:List Key).map (aF P w).hash)),_,_⟩:yj)=⟨reduceHash (Builtin.Tuple.tupleHashOf ((is.map Sum.inl:List Key).map (aF P' w').hash)),_,_⟩;rw[e2]
 .obtain⟨o,items,n,q1,q2,q3,q4⟩:=h5 x hx;exact⟨o,items,n,q1,q2,q3,aaM q4⟩
theorem aqL{ps:List (Int×Int)}(h:KV (ps.map λp=>((.inl p.1:Key),V.int p.2)) ka):∀z∈ka,∃i,z.1=.inl i:=by
 induction ps generalizing ka with
 |nil=>cases h;exact λ_ h=>nomatch h
 |cons p ps ih =>
  cases h with
  |cons h r =>
  intro z hz;rcases je.mp hz with rfl|hz
  .exact⟨p.1,h.1.symm⟩
  .exact ih r z hz
theorem aqM(h:KT H (M.map λz=>(z.1,V.ref z.2)) xs)(hm:∀z∈M,∃is:List Int,z.1=is.map .inl):∀z∈xs,∃is:List Int,z.1=is.map .inl:=by
 induction M generalizing xs with
 |nil=>cases h;exact λ_ h=>nomatch h
 |cons p ps ih =>
  cases h with
  |cons h r =>
  intro z hz;rcases je.mp hz with rfl|hz
  .obtain⟨is,e⟩:=hm p (su ..);exact⟨is,h.1.symm.trans e⟩
  .exact ih r (λz hz=>hm z (jq _ hz)) z hz
end
section
variable{X:Cx}
theorem aCZ(I:Inv X pins σ H s)(g:HR X.K H G){N:List (List Key×bw)}(hu:A.units+4<jl)(hab:a≠b)(e1:G a=aj (.bC ak (M.map kY)))(e2:G b=aj (.bC ak (N.map kY)))(hc:∀z∈M++N,G z.2=aj (.bC ao ((c z.2).map jJ))/\∃is:List Int,z.1=is.map .inl):SeqAt.EqAt A s (.ref a) (.ref b) (eqT c M N):=by
 intro prog w E Q hq;have in1:A.in1.units=A.units+1:=rfl;obtain⟨n1,xa,va,da⟩:=a5O I g e1;obtain⟨n2,xb,vb,db⟩:=a5O I g e2;have l1:=kt_len va;have l2:=kt_len vb;unfold eqBool;refine qb ?_;show dg _ _ (if(aq.ref a==aq.ref b)=ak then _ else _) Q E s;rw[if_neg (λz=>hab (by have:=eq_of_beq z;injection this))]
 have hits:=acF (prog:=prog) (w:=w) (A:=A.in1) (s:=s) (c:=c) vb va λz hz y hy=>by
  obtain⟨m1,nd1,k1,w1,d1⟩:=aaE I g (hc z (a0n _ hz)).1;obtain⟨m2,nd2,k2,w2,d2⟩:=aaE I g (hc _ (qd _ (a74 hy))).1;exact ak8 m1 m2 (aqJ d1 (aqL w1)) (aqJ d2 (aqL w2)) w1 w2 (by omega) λe=>by rw[e];exact a73 nd2
 refine au (show dg _ _ (jd .Eq (.ref a) (.ref b)) _ _ _ from aq3 n1 n2 (aqK da (aqM va λz hz=>(hc z (a0n _ hz)).2)) (aqK db (aqM vb λz hz=>(hc z (qd _ hz)).2)) (by omega) (show A.in1.units<jl by omega) (λ_=>hits) ?_);rw[l1,l2];exact uo hq
noncomputable def acK:R3:=λx y G R=>∃x1 y1 a b,∃M N:List (List Key×bw),∃c:bw->List (Int×Int),x=.tup [x1,.ref a]/\y=.tup [y1,.ref b]/\a≠b/\okN G 5 x1 y1=ak/\G a=aj (.bC ak (M.map kY))/\G b=aj (.bC ak (N.map kY))/\(∀z∈M++N,G z.2=aj (.bC ao ((c z.2).map jJ))/\∃is:List Int,z.1=is.map .inl)/\R (.bl (!(xT G 5 x1 y1&&eqT c M N))) G
theorem aD0(hu:X.A.units+64<jl):jY X (jd .NotEq) acK:=vG λpins s σ H x y vx vy u v G R Q I rx ry ru rv g q k=>by
 obtain⟨x1,y1,a,b,M,N,c,rfl,rfl,hab,ok,e1,e2,hc,q⟩:=q
 have hu1:X.A.in1.units+20<jl:=by
  show X.A.units+1+20<jl;omega
 cases rx with
 |@tup p1 xs1 _ h1 r1 =>
 cases ry with
 |@tup p2 xs2 _ h2 r2 =>
 cases ru;cases rv;obtain⟨its,vv,px,_⟩:=I.tuple h1;obtain⟨jts,ww,py,_⟩:=I.tuple h2;cases r1 with
 |cons ra r1 =>
 cases r1 with
 |cons rb r1 =>
 cases r1;cases rb;cases r2 with
 |cons rc r2 =>
 cases r2 with
 |cons rd r2 =>
 cases r2;cases rd;cases vv with
 |cons va vv =>
 cases vv with
 |cons vb vv =>
 cases vv;cases vb;cases ww with
 |cons wa ww =>
 cases ww with
 |cons wb ww =>
 cases ww;cases wb
 have z:=SeqAt.RcNeAt.tuples (A:=X.A) (e:=λj=>if j=0 then xT G 5 x1 y1 else eqT c M N) (show s.heap.IsTuple p1 _ from px) (show s.heap.IsTuple p2 _ from py) (by omega) λj q1 q2=>by
  match j,q1,q2 with
  |0,_,_=>exact apA I g 5 X.A.in1 (by omega) ok ra rc va wa
  |1,_,_=>exact aCZ I g (by omega) hab e1 e2 hc
  |j+2,q1,_=>exact absurd q1 (by simp)
 have e:(!((jw 2).all (λj=>if j=0 then xT G 5 x1 y1 else eqT c M N)&&(2:Nat)==2))=!(xT G 5 x1 y1&&eqT c M N):=by
  simp[List.range_succ]
 exact z X.prog X.w X.xe _ ⟨.bl _,H,I,rfl,k _ H (.bl _) G (.refl H) (.bl _) g (by
  have:=q;rw[←e]at this;exact this)⟩
end
end
end L2
namespace L4
open PySem PySem.Spec PyProof.Rows L2
inductive BF where
 |len|isi|sum|aaO|a79|aqN|aaP|af0|akG|af2
 deriving DecidableEq
inductive MK where
 |append|pop
 deriving DecidableEq
inductive DM where
 |sdf|pop
 deriving DecidableEq
inductive GT where
 |con (d:D)|cls (a:bw)|fn (sp:pH) (n:Nat) (qt:Bool)|bf (b:BF)|bt (n:String)|kl (C:bw) (sp:pH) (dd:List D)|me (C:bw) (m:Str) (sp:pH) (dd:List D)|fl (C:bw) (f:Str)
structure SI where
 N:List Str
 fl:List Bool
 lc:List Bool
 ce:List Bool
 gl:List (Str×GT)
 gv:List Bool
 calm:Bool
mutual
inductive CE where
 |var (i:Nat)|con (d:D)|glo (k:Nat)|neg (a:CE)|aw8 (a:CE)|bin (o:Operator) (a b:CE)|cmp (o:qx) (a b:CE)|chain (o o':qx) (a b c:CE)
 |amT (es:CEs)|tup (es:CEs)|lst (es:CEs)|dct|ix (a b:CE)|call (k:Nat) (es:CEs)|meth (m:MK) (o:CE) (es:CEs)
 |comp (fl gv:List Bool) (ci:CI) (cc:CC) (e:CE)|eqd (neg:Bool) (a b:CE)|fld (k:Nat) (o:CE)|jP (k:Nat) (o:CE) (es:CEs)|dix (a b:CE)|din (neg:Bool) (a b:CE)|dgt (o e f:CE)|amU|dm (m:DM) (o e:CE) (es:CEs)|sortI (k:Nat) (o:CE)|awA (k:Nat) (o:CE)|deq (neg:Bool) (a b:CE)|awB|nix (a b:CE)|ngt (o e f:CE)|thw (i:Nat) (a:CE)|listI (k:Nat) (o:CE)
inductive CEs where
 |nil|cons (e:CE) (r:CEs)
inductive CT where
 |cmp (o:qx) (a b:CE)|chain (o o':qx) (a b c:CE)|not (t:CT)|or (ts:CTs)|val (e:CE)|eqd (neg:Bool) (a b:CE)|din (neg:Bool) (a b:CE)|deq (neg:Bool) (a b:CE)|nld (a b:CE)
inductive CTs where
 |nil|cons (t:CT) (r:CTs)
inductive CO where
 |none|some (e:CE)
inductive CI where
 |any (e:CE)|ahW (e:CE)|keys (e:CE)|yR (e:CE)
inductive CC where
 |none|some (t:CT)
end
noncomputable abbrev SI.cmp(S:SI)(xs:List Str)(fl gv:List Bool):SI:=⟨xs++S.N,xs.map (λ_=>ak)++fl,xs.map (λ_=>ak)++S.N.map (λ_=>ao),xs.map (λ_=>ao)++fl,S.gl,gv,S.calm⟩
noncomputable def ahX:bV:=λ_ _ _=>False
noncomputable def az8:yN:=λ_ _ _=>False
noncomputable def NoX:aO->aX:=λ_ _ _=>False
noncomputable def azA:Operator->R3
 |.Add=>gK
 |.Sub=>a6G
 |.Mult=>a0D
 |.FloorDiv=>tE
 |.Mod=>jA
 |.Pow=>ayN
 |_=>λ_ _ _ _=>False
noncomputable def a7A:qx->R3
 |.Eq=>xR
 |.NotEq=>aoR
 |.Lt=>aoK
 |.LtE=>aoL
 |.Gt=>auP
 |.GtE=>aHK
 |.Is=>aBC
 |.IsNot=>aoN
 |.In=>aHZ
 |.NotIn=>ajQ
noncomputable def aqP:Bool->R3
 |true=>a6P
 |false=>ayU
noncomputable def aIW(K:Fg):BF->List D->Gp->fZ->Prop
 |.len=>yP
 |.isi=>aM K
 |.sum=>ayT
 |.aaO=>pQ
 |.a79=>tL
 |.aqN=>a2L
 |.aaP=>nP
 |.af0=>tM
 |.akG=>a0P
 |.af2=>a0Q
noncomputable def aD3(n:String):List D->Gp->fZ->Prop:=if n="int" then ae6 else if n="list" then a6J else if n="str" then az0 else if n="tuple" then ak4 else λ_ _ _=>False
noncomputable def dmN:DM->Str
 |.sdf=>"setdefault"
 |.pop=>"pop"
noncomputable def dmR:DM->RM3
 |.sdf=>a3X
 |.pop=>a2K
noncomputable def mkT:MK->String
 |.append=>"list"
 |.pop=>"list"
noncomputable def mkR:MK->RM3
 |.append=>jM
 |.pop=>ayV
noncomputable def mkN:MK->Str
 |.append=>"append"
 |.pop=>"pop"
noncomputable def aD4(T:List (Str×GT))(k:Nat):bV:=match T[k]? with
 |some (_,.con d)=>bN d
 |some (_,.cls a)=>bN (.ref a)
 |some (_,.bt n)=>bN (.ty n)
 |_=>ahX
noncomputable def aD5(T:List (Str×GT))(K:Fg)(ex:aO->aX)(k:Nat)(t:sS):bV:=match T[k]? with
 |some (_,.fn sp _ _)=>bB sp ex t
 |some (_,.cls a)=>apF a t
 |some (_,.bf b)=>kJ (aIW K b) t
 |some (_,.bt n)=>kJ (aD3 n) t
 |some (_,.kl C sp dd)=>a2I C sp dd ex t
 |_=>ahX
noncomputable def aD6(T:List (Str×GT))(k:Nat)(t:bV):bV:=match T[k]? with
 |some (_,.fl C f)=>kW C t f
 |_=>ahX
noncomputable def aD7(T:List (Str×GT))(ex:aO->aX)(k:Nat)(to:bV)(t:sS):bV:=match T[k]? with
 |some (_,.me C m sp dd)=>eE C m sp dd ex to t
 |_=>ahX
noncomputable def aD8:Bool->R3
 |true=>apM
 |false=>aeL
mutual
noncomputable def mE(T:List (Str×GT))(K:Fg)(ex:aO->aX):CE->bV
 |.var i=>aB i
 |.con d=>bN d
 |.glo k=>aD4 T k
 |.neg a=>ajN (mE T K ex a)
 |.aw8 a=>abU (mE T K ex a)
 |.bin o a b=>aL (azA o) (mE T K ex a) (mE T K ex b)
 |.cmp o a b=>aL (a7A o) (mE T K ex a) (mE T K ex b)
 |.chain o o' a b c=>pK (a7A o) (a7A o') (mE T K ex a) (mE T K ex b) (mE T K ex c)
 |.amT es=>aD9 T K ex es
 |.tup es=>gJ (mA T K ex es)
 |.lst es=>pL (mA T K ex es)
 |.dct=>vI
 |.ix a b=>aL d7 (mE T K ex a) (mE T K ex b)
 |.call k es=>aD5 T K ex k (mA T K ex es)
 |.meth m o .nil=>aBU (mkT m) (mkR m) (mE T K ex o)
 |.meth m o (.cons e r)=>tM3 (mkT m) (mkR m) (mE T K ex o) (aA (mE T K ex e) (mA T K ex r))
 |.comp _ _ ci cc e=>jN (mI T K ex ci) (mC T K cc) (mE T K NoX e)
 |.eqd neg a b=>aL (aqP neg) (mE T K ex a) (mE T K ex b)
 |.fld k o=>aD6 T k (mE T K ex o)
 |.jP k o es=>aD7 T ex k (mE T K ex o) (mA T K ex es)
 |.dix a b=>aL lD (mE T K ex a) (mE T K ex b)
 |.din neg a b=>aL (aD8 neg) (mE T K ex a) (mE T K ex b)
 |.dgt o e f=>pP (mE T K ex o) (mE T K ex e) (mE T K ex f)
 |.amU=>xC
 |.dm m o e es=>ahM (dmR m) (mE T K ex o) (aA (mE T K ex e) (mA T K ex es))
 |.sortI _ o=>a0O (mE T K ex o)
 |.awA _ o=>acE (mE T K ex o)
 |.deq neg a b=>aL (aaF neg) (mE T K ex a) (mE T K ex b)
 |.awB=>a5Q
 |.nix a b=>aL yQ (mE T K ex a) (mE T K ex b)
 |.ngt o e f=>acI (mE T K ex o) (mE T K ex e) (mE T K ex f)
 |.thw i a=>rJ i (mE T K ex a)
 |.listI _ o=>a5S (mE T K ex o)
noncomputable def mA(T:List (Str×GT))(K:Fg)(ex:aO->aX):CEs->sS
 |.nil=>aG
 |.cons e r=>aA (mE T K ex e) (mA T K ex r)
noncomputable def aD9(T:List (Str×GT))(K:Fg)(ex:aO->aX):CEs->bV
 |.nil=>ahX
 |.cons e .nil=>mE T K ex e
 |.cons e (.cons e' r)=>vA (mE T K ex e) (aD9 T K ex (.cons e' r))
noncomputable def mOr(T:List (Str×GT))(K:Fg)(ex:aO->aX):CEs->bV
 |.nil=>ahX
 |.cons e .nil=>mE T K ex e
 |.cons e (.cons e' r)=>ayL (mE T K ex e) (mOr T K ex (.cons e' r))
noncomputable def mT(T:List (Str×GT))(K:Fg)(ex:aO->aX):CT->yN
 |.cmp o a b=>bH (aL (a7A o) (mE T K ex a) (mE T K ex b))
 |.chain o o' a b c=>bH (pK (a7A o) (a7A o') (mE T K ex a) (mE T K ex b) (mE T K ex c))
 |.not t=>v9 (mT T K ex t)
 |.or ts=>aDA T K ex ts
 |.val e=>bH (mE T K ex e)
 |.eqd neg a b=>bH (aL (aqP neg) (mE T K ex a) (mE T K ex b))
 |.din neg a b=>bH (aL (aD8 neg) (mE T K ex a) (mE T K ex b))
 |.deq neg a b=>bH (aL (aaF neg) (mE T K ex a) (mE T K ex b))
 |.nld a b=>bH (aL acK (mE T K ex a) (mE T K ex b))
noncomputable def azB(T:List (Str×GT))(K:Fg)(ex:aO->aX):CTs->yN
 |.nil=>az8
 |.cons e .nil=>mT T K ex e
 |.cons e (.cons e' r)=>aoI (mT T K ex e) (azB T K ex (.cons e' r))
noncomputable def aDA(T:List (Str×GT))(K:Fg)(ex:aO->aX):CTs->yN
 |.nil=>az8
 |.cons e .nil=>mT T K ex e
 |.cons e (.cons e' r)=>ahI (mT T K ex e) (aDA T K ex (.cons e' r))
noncomputable def mO(T:List (Str×GT))(K:Fg)(ex:aO->aX):CO->TO3
 |.none=>ae2
 |.some e=>aoP (mE T K ex e)
noncomputable def mI(T:List (Str×GT))(K:Fg)(ex:aO->aX):CI->TI3
 |.any e=>a2C (mE T K ex e)
 |.ahW e=>a2D (aA (mE T K ex e) aG)
 |.keys e=>oA ak (mE T K ex e)
 |.yR e=>iY (mE T K ex e)
noncomputable def mC(T:List (Str×GT))(K:Fg):CC->yN
 |.none=>qM
 |.some t=>mT T K NoX t
end
noncomputable def isStar:jk->Bool
 |.Starred ..=>ak
 |_=>ao
noncomputable def isSlice:jk->Bool
 |.Slice ..=>ak
 |_=>ao
noncomputable def bL:jk->Bool
 |.Call (.Name id _) [] [] _=>id !=("super":Str)
 |_=>ak
noncomputable def isSet:jk->Bool
 |.Set ..=>ak
 |_=>ao
noncomputable def aDB:BF->String
 |.len=>"len"
 |.isi=>"isinstance"
 |.sum=>"sum"
 |.aaO=>"dict"
 |.a79=>"sorted"
 |.aqN=>"len"
 |.aaP=>"sorted"
 |.af0=>"dict"
 |.akG=>"sorted"
 |.af2=>"dict"
noncomputable def akH:BF->aq
 |.aaO=>.type "dict"
 |.af0=>.type "dict"
 |.af2=>.type "dict"
 |b=>.builtin (aDB b)
noncomputable def ahY:BF->Bool
 |.len=>ak
 |.isi=>ak
 |.aqN=>ak
 |.a79=>ak
 |_=>ao
noncomputable def a0R(S:SI):Bool:=(jw S.gl.length).any λk=>S.gv[k]?==aj ak&&match S.gl[k]? with
 |some (y,.bt n)=>y==("range":Str)&&n=="range"
 |_=>ao
noncomputable def aOW(S:SI)(k:Nat)(x:Str):Bool:=match S.gl[k]? with
 |some (y,.bf b)=>y==x&&akH b==.builtin "max"
 |_=>ao
noncomputable def aDC(S:SI)(y:Str):Bool:=(jw S.N.length).any λi=>S.N[i]?==aj y&&S.ce[i]?==aj ak
noncomputable def acL:List Str->Bool
 |[]=>ak
 |x::r=>!r.contains x&&acL r
noncomputable def aaQ(S:SI)(xs:List Str)(scope:yp)(fl gv:List Bool):Bool :=
 scope.kind==.function&&scope.names.all (λy=>y.2 !=.cell&&(y.2 !=.local||scope.names.lookup y.1==aj .local)&&(y.2 !=.free||aDC S y.1)) &&
 xs.all (λx=>scope.names.lookup x==aj .local&&!S.N.contains x&&x !=("__debug__":Str)&&x !=("__classdict__":Str))&&acL xs &&
 S.N.all (λy=>scope.names.lookup y !=aj .local) &&
 (jw S.N.length).all (λi=>fl[i]? !=aj ak||(S.fl[i]?==aj ak&&match S.N[i]? with
  |some y=>scope.names.lookup y==aj .free
  |none=>ao)) &&
 (jw S.gl.length).all (λk=>gv[k]? !=aj ak||match S.gl[k]? with
  |some (y,_)=>scope.names.lookup y==aj .globalImplicit
  |none=>ao)
noncomputable def azC:D->Const->Bool
 |.int i,.int j=>i==j
 |.str s,.str t=>s==t
 |.bl b,.bool c=>b==c
 |.non,.none=>ak
 |_,_=>ao
noncomputable def plainT:jk->Bool
 |.UnaryOp .Not _ _=>ao
 |.BoolOp ..=>ao
 |.IfExp ..=>ao
 |.Compare ..=>ao
 |_=>ak
noncomputable def aqQ(S:SI)(k:Nat)(x:Str):Bool:=match S.gl[k]? with
 |some (y,.con _)=>y==x
 |some (y,.cls _)=>y==x
 |some (y,.bt _)=>y==x
 |_=>ao
noncomputable def akI(S:SI)(k:Nat)(x:Str)(e:Bool):Bool:=match S.gl[k]? with
 |some (y,.fn _ _ qt)=>y==x&&(qt||S.calm)
 |some (y,.cls _)=>y==x
 |some (y,.bf b)=>y==x&&e&&(S.calm||ahY b)
 |some (y,.bt _)=>y==x&&e
 |some (y,.kl _ _ _)=>y==x&&S.calm
 |_=>ao
noncomputable def amV(S:SI)(k:Nat)(x:Str):Bool:=match S.gl[k]? with
 |some (_,.fl _ f)=>f==x
 |_=>ao
noncomputable def awC(S:SI)(k:Nat)(x:Str):Bool:=match S.gl[k]? with
 |some (_,.me _ m _ _)=>m==x
 |_=>ao
noncomputable def amW(S:SI)(k:Nat)(x:Str)(nm:String):Bool:=match S.gl[k]? with
 |some (y,.bf b)=>y==x&&akH b==.builtin nm
 |_=>ao
noncomputable def awD(S:SI)(k:Nat)(x:Str)(nm:String):Bool:=match S.gl[k]? with
 |some (y,.bt n)=>y==x&&n==nm
 |_=>ao
noncomputable def vP:jk->Option (jk×Str×Bool)
 |.Call (.Attribute y n ap) [] [] cp=>aj (y,n,ap.endLine==cp.line)
 |_=>bh
noncomputable def aKP:jk->Option (Str×jk)
 |.Call (.Name x _) [z] [] _=>aj (x,z)
 |_=>bh
mutual
noncomputable def kE(S:SI):CE->jk->Bool
 |.var i,.Name x _=>S.N[i]?==aj x&&S.fl[i]?==aj ak
 |.con d,.Constant c _ _=>azC d c
 |.glo k,.Name x _=>S.gv[k]?==aj ak&&aqQ S k x
 |.neg a,.UnaryOp .USub e _=>kE S a e
 |.aw8 a,.UnaryOp .Not e _=>kE S a e
 |.bin o a b,.BinOp x o' y _=>o==o'&&kE S a x&&kE S b y
 |.cmp o a b,.Compare x [o'] [y] _=>o==o'&&!behindInMarks o' y&&kE S a x&&kE S b y
 |.chain o o' a b c,.Compare x [p,p'] [y,z] _=>o==p&&o'==p'&&!lastMarks [p,p'] [y,z]&&kE S a x&&kE S b y&&kE S c z
 |.amT es,.BoolOp .And xs _=>rB S es xs
 |.tup es,.Tuple xs _ _=>rB S es xs
 |.lst es,.List xs _=>rB S es xs
 |.dct,.Dict [] [] _=>ak
 |.ix a b,.Subscript x y _=>!isSlice y&&kE S a x&&kE S b y
 |.call k es,.Call (.Name x _) xs [] _=>rB S es xs&&S.gv[k]?==aj ak&&akI S k x (!xs.isEmpty)
 |.meth m o es,.Call (.Attribute y n ap) xs [] cp=>n==mkN m&&bL y&&ap.endLine==cp.line&&decide (xs.length<30)&&kE S o y&&rB S es xs
 |.comp fl gv ci cc e,.ListComp elt [⟨.Name x _,iter,ifs,a⟩] scope _=>a==0&&aaQ S [x] scope fl gv&&!isSet iter&&kI S ao ci iter&&kC (S.cmp [x] fl gv) cc ifs&&kE (S.cmp [x] fl gv) e elt
 |.eqd neg a b,.Compare x [o'] [y] _=>o'==(if neg then qx.NotEq else qx.Eq)&&kE S a x&&kE S b y
 |.fld k o,.Attribute y n _=>amV S k n&&bL y&&kE S o y
 |.jP k o es,.Call (.Attribute y n ap) xs [] cp=>awC S k n&&S.calm&&bL y&&ap.endLine==cp.line&&decide (xs.length<30)&&kE S o y&&rB S es xs
 |.dix a b,.Subscript x y _=>!isSlice y&&kE S a x&&kE S b y
 |.din neg a b,.Compare x [o'] [y] _=>o'==(if neg then qx.NotIn else qx.In)&&!behindInMarks o' y&&kE S a x&&kE S b y
 |.dgt o e f,.Call (.Attribute y n ap) [x,z] [] cp=>n==("get":Str)&&bL y&&ap.endLine==cp.line&&!isStar x&&!isStar z&&kE S o y&&kE S e x&&kE S f z
 |.amU,.Dict [] [] _=>ak
 |.dm m o e es,.Call (.Attribute y n ap) (x::xs) [] cp=>n==dmN m&&bL y&&ap.endLine==cp.line&&decide ((x::xs).length<30)&&kE S o y&&!isStar x&&kE S e x&&rB S es xs
 |.sortI k o,.Call (.Name x _) [w] [] _=>S.calm&&S.gv[k]?==aj ak&&amW S k x "sorted"&&(match vP w with
  |some (y,n,l)=>l&&n==("items":Str)&&bL y&&kE S o y
  |none=>ao)
 |.awA k o,.Call (.Name x _) [w] [] _=>S.calm&&S.gv[k]?==aj ak&&amW S k x "sum"&&(match vP w with
  |some (y,n,l)=>l&&n==("values":Str)&&bL y&&kE S o y
  |none=>ao)
 |.deq neg a b,.Compare x [o'] [y] _=>o'==(if neg then qx.NotEq else qx.Eq)&&kE S a x&&kE S b y
 |.awB,.Dict [] [] _=>ak
 |.nix a b,.Subscript x y _=>!isSlice y&&kE S a x&&kE S b y
 |.ngt o e f,.Call (.Attribute y n ap) [x,z] [] cp=>n==("get":Str)&&bL y&&ap.endLine==cp.line&&!isStar x&&!isStar z&&kE S o y&&kE S e x&&kE S f z
 |.thw _ a,x=>kE S a x
 |.listI k o,.Call (.Name x _) [w] [] _=>S.calm&&S.gv[k]?==aj ak&&awD S k x "list"&&(match vP w with
  |some (y,n,l)=>l&&n==("items":Str)&&bL y&&kE S o y
  |none=>ao)
 |_,_=>ao
noncomputable def rB(S:SI):CEs->List jk->Bool
 |.nil,[]=>ak
 |.cons e r,x::xs=>!isStar x&&kE S e x&&rB S r xs
 |_,_=>ao
noncomputable def kT(S:SI):CT->jk->Bool
 |.cmp o a b,.Compare x [o'] [y] _=>o==o'&&!behindInMarks o' y&&kE S a x&&kE S b y
 |.chain o o' a b c,.Compare x [p,p'] [y,z] _=>o==p&&o'==p'&&!lastMarks [p,p'] [y,z]&&kE S a x&&kE S b y&&kE S c z
 |.not t,.UnaryOp .Not e _=>kT S t e
 |.or ts,.BoolOp .Or xs _=>kTs S ts xs
 |.eqd neg a b,.Compare x [o'] [y] _=>o'==(if neg then qx.NotEq else qx.Eq)&&kE S a x&&kE S b y
 |.din neg a b,.Compare x [o'] [y] _=>o'==(if neg then qx.NotIn else qx.In)&&!behindInMarks o' y&&kE S a x&&kE S b y
 |.deq neg a b,.Compare x [o'] [y] _=>o'==(if neg then qx.NotEq else qx.Eq)&&kE S a x&&kE S b y
 |.nld a b,.Compare x [o'] [y] _=>o'==qx.NotEq&&kE S a x&&kE S b y
 |.val e,x=>plainT x&&kE S e x
 |_,_=>ao
noncomputable def kTs(S:SI):CTs->List jk->Bool
 |.nil,[]=>ak
 |.cons e r,x::xs=>kT S e x&&kTs S r xs
 |_,_=>ao
noncomputable def kO(S:SI):CO->Option jk->Bool
 |.none,bh=>ak
 |.some e,aj x=>kE S e x
 |_,_=>ao
noncomputable def kI(S:SI)(tt:Bool):CI->jk->Bool
 |.any e,x=>kE S e x
 |.ahW e,.Call (.Name r _) [y] [] _=>r==("range":Str)&&a0R S&&!isStar y&&kE S e y
 |.keys e,x=>S.calm&&kE S e x
 |.yR e,x=>S.calm&&kE S e x
 |_,_=>ao
noncomputable def kC(S:SI):CC->List jk->Bool
 |.none,[]=>ak
 |.some t,[x]=>kT S t x
 |_,_=>ao
end
end L4
namespace L4
open PySem PySem.Spec PyProof.Rows L2
variable{env:Env}
theorem aZ(h:isStar e=ao):jg (e::es) env=(ao,eval e env)::jg es env:=by
 cases e<;>first|rfl|(exact absurd (show ak=ao from h) (by decide))
theorem oE{env:Env}{pos:Pos}:∀{cs:CEs}{xs:List jk},rB S cs xs=ak->(rm pos (jg xs env)).any (·.1)=ao
 |.nil,[],_=>rfl
 |.nil,_::_,h=>absurd (show ao=ak from h) (by decide)
 |.cons _ _,[],h=>absurd (show ao=ak from h) (by decide)
 |.cons e r,x::xs,h=>by
  have h':(!isStar x&&kE S e x&&rB S r xs)=ak:=h;simp only[bx,iu]at h';rw[aZ h'.1.1];show(ao||(rm pos (jg xs env)).any (·.1))=ao;rw[oE h'.2];rfl
theorem iC{o:jk}(h:bL o=ak):uh o n env (eval o env)=eval o env:=by
 cases o with
 |Call f args kws pos =>
  cases f with
  |Name id p =>
   cases args with
   |nil =>
    cases kws with
    |nil =>
     have h':(id !=("super":Str))=ak:=h;unfold uh;simp only[h',Bool.true_or,if_true]
    |cons _ _=>rfl
   |cons _ _=>cases kws<;>rfl
  |_=>rfl
 |_=>rfl
noncomputable abbrev BMv:List aq:=[.type "ValueError",.type "Exception",.type "BaseException",.type "object"]
noncomputable def aIY(X:Cx)(cm:Bool)(x:Str):GT->Prop
 |.con d=>∃u v,X.mg x=aj u/\RelV v u/\∀H,RD X.K H d v
 |.cls a=>X.mg x=aj (.ref a)/\yg X.K a BMv "ValueError.__new__"=ak
 |.fn sp n qt=>(qt=ak∨cm=ak)->∃k f fd ps,cC qt X.prog X.w X.K X.mg X.base (jZ X.prog X.w) k f fd ps (cO X.K sp)/\gG qt k X.A/\X.mg x=aj (.ref f)/\uf X.K (.ref f)=ak/\Binds X.K fd ps []
 |.bf b=>X.mg x=bh/\ni x=aj (akH b)
 |.bt n=>X.mg x=bh/\ni x=aj (.type n)
 |.kl C sp dd=>cm=ak->∃k f fd ps ds xB,Mk X.K C f/\cC ao X.prog X.w X.K X.mg X.base (jZ X.prog X.w) k f fd ps (cO X.K sp)/\gG ao (k+1) X.A/\X.mg x=aj (.ref C)/\Binds X.K fd ps ds/\Vals xB ds/\∀H,bW X.K H dd xB
 |.me C m sp dd=>cm=ak->∃k f fd ps ds xB,Cls X.K C/\Meth X.K C m f/\cC ao X.prog X.w X.K X.mg X.base (jZ X.prog X.w) k f fd ps (cO X.K sp)/\gG ao k X.A/\Binds X.K fd ps ds/\Vals xB ds/\∀H,bW X.K H dd xB
 |.fl C f=>Cls X.K C/\lA X.K C f
structure lE(X:Cx)(S:SI)(ex:aO->aX):Prop where
 N:X.N=S.N
 nd:X.N.Nodup
 vis:∀(i:Nat)(x:Str),S.N[i]?=aj x->S.fl[i]?=aj ak->Vis X.env.scope x/\(x==("__debug__":Str))=ao/\(x==("__classdict__":Str))=ao
 ce:∀(i:Nat)(x:Str),S.N[i]?=aj x->S.ce[i]?=aj ak->X.env.kindOf x=aj .cell∨X.env.kindOf x=aj .free
 gm:∀(k:Nat)(x:Str)(g:GT),S.gl[k]?=aj (x,g)->(S.gv[k]?=aj ak->Gl X x)/\(x==("__debug__":Str))=ao/\x≠"__name__"/\aIY X S.calm x g
 hu:X.A.units+64<jl
 cm:S.calm=ak->X.calm=ak
 cat:Cat X ex
theorem lE.gl{S:SI}{ex:aO->aX}(Q:lE X S ex)(k:Nat)(x:Str)(g:GT)(h:S.gl[k]?=aj (x,g))(hv:S.gv[k]?=aj ak):Gl X x/\(x==("__debug__":Str))=ao/\x≠"__name__"/\aIY X S.calm x g :=
 ⟨(Q.gm k x g h).1 hv,(Q.gm k x g h).2⟩
section
variable{X:Cx}{ex:aO->aX}
theorem aqR:bY X e ahX:=λ_ _ _ _ _ _ ⟨_,_,_,_,_,z,_⟩=>z.elim
theorem awE{o:Operator}:a6F X (wu o) (azA o):=by
 have no:∀{f:aq->aq->Sem aq},a6F X f (λ_ _ _ _=>False):=λ{f}=>⟨λ_ _ _ _=>False,λ_ _ _ _ _ _ _ _ _ _ _ _ h=>h.elim,λ_ _ _ _ _ _ _ _ _ _ _ h _=>h.elim⟩;exact match o with
 |.Add=>aHL
 |.Sub=>aHG
 |.Mult=>aHH
 |.FloorDiv=>aBB
 |.Mod=>aHI
 |.Pow=>aHJ
 |.MatMult=>no
 |.Div=>no
 |.LShift=>no
 |.RShift=>no
 |.BitOr=>no
 |.BitXor=>no
 |.BitAnd=>no
theorem xG{o:qx}(hu:X.A.units+64<jl):jY X (jd o) (a7A o):=by
 exact match o with
 |.Eq=>aMN hu
 |.NotEq=>aMO hu
 |.Lt=>aM4
 |.LtE=>aM7
 |.Gt=>aM5
 |.GtE=>aM6
 |.Is=>aM8
 |.IsNot=>aBD
 |.In=>aMQ hu
 |.NotIn=>auW hu
set_option tactic.hygienic true in
theorem aIZ{n:String}:d8 X (.type n) (aD3 n):=by
 unfold aD3;split
 ·rename_i h;subst h;exact aHX
 .split
  ·rename_i h;subst h;exact aBQ
  .split
   ·rename_i h;subst h;exact aIL
   .split
    ·rename_i h;subst h;exact avS
    .exact λ_ _ _ _ _ _ _ _ _ _ _ _ _ _ h _=>h.elim
theorem aqS{qt:Bool}{k:Nat}{x:Str}{p pos:Pos}(F:cC qt X.prog X.w X.K X.mg X.base (jZ X.prog X.w) k f fd ps (cO X.K sp))(hr:gG qt k X.A)(hg:Gl X x)(hm:X.mg x=aj (.ref f))(hk:uf X.K (.ref f)=ak)(hb:Binds X.K fd ps [])(hx:Cat X ex)
  (hdb:(x==("__debug__":Str))=ao):bY X (.Call (.Name x p) [] [] pos) (bB sp ex aG):=by
 intro pins s σ H Q I h;obtain⟨ρ,G,R,sr,g,q,kk⟩:=h;refine wg (pJ I hg hm ?_ hdb);refine a2t I.kIn hk ?_;exact ajM (E:=yO X.K (ex ρ)) F hr hb (λe s' c=>hx.aa1 pins σ H s ρ e s' I sr c) I .nil (Q:=λv H'=>∃d G',RD X.K H' d v/\HR X.K H' G'/\R d G') ⟨[],G,R,ex ρ,.nil,g,q,λv H' d G' r2 g2 q2=>⟨d,G',r2,g2,q2⟩,λC H' G' g' q'=>⟨C,G',rfl,g',q'⟩⟩ (by rintro v H' t2 ⟨d,G',r2,g2,q2⟩;exact kk v H' d G' t2 r2 g2 q2)
theorem zK{xs:List jk}{cs:CEs}(h:rB S cs xs=ak)(hl:xs.length<30):((rm cp (jg xs X.env)).all (λx=>!x.1)&&(backToKw cp (a0b [] X.env)).all (λx=>x.1.isSome)
   &&decide (xs.length+([]:List a0j).length+(if([]:List a0j).isEmpty then 0 else 1)<30))=ak:=by
 have h1:(rm cp (jg xs X.env)).all (λx=>!x.1)=ak:=by
  rw[jy];intro y hy;have:=oE (env:=X.env) (pos:=cp) h;rw[List.any_eq_false]at this;have:=this y hy;simpa using this
 have h2:(decide (xs.length+([]:List a0j).length+(if([]:List a0j).isEmpty then 0 else 1)<30))=ak:=decide_eq_true (by simpa using hl);rw[h1,h2];rfl
end
end L4
namespace L4
open PySem PySem.Spec PyProof.Rows L2
variable{j:Nat}{pos p ap cp:Pos}{x:Str}{m:MK}{o:jk}{cs:CEs}{env:Env}{neg:Bool}
section
variable{X:Cx}{S:SI}{ex:aO->aX}
theorem aDD(h:azC d c=ak):bY X (.Constant c j pos) (bN d):=by
 cases d<;>cases c<;>first|exact absurd (show ao=ak from h) (by decide)|skip
 .exact aH2
 .have:=beq_iff_eq.mp h;subst this;exact aM0
 .have:=beq_iff_eq.mp h;subst this;exact aH1
 .have:=beq_iff_eq.mp h;subst this;exact aH3
theorem aDE{e:jk}(h:plainT e=ak):∀whole,isTrue e X.env whole=(do let v ←whole;standAt e.pos;holding [v] (truthy v)):=by
 cases e with
 |UnaryOp op x p=>cases op<;>first|exact absurd (show ao=ak from h) (by decide)|(intro _;rfl)
 |BoolOp _ _ _=>exact absurd (show ao=ak from h) (by decide)
 |IfExp _ _ _ _=>exact absurd (show ao=ak from h) (by decide)
 |Compare _ _ _ _=>exact absurd (show ao=ak from h) (by decide)
 |_=>intro _;rfl
theorem aqT(h:isSlice e=ao):abL e:=by
 cases e with
 |Slice _ _ _ _=>exact absurd (show ak=ao from h) (by decide)
 |_=>intro _ _;rfl
theorem aJ0(Q:lE X S ex){k:Nat}{b:BF}(hk:S.gl[k]?=aj (x,.bf b))(hv:S.gv[k]?=aj ak)(hc:(S.calm||ahY b)=ak){t:sS}(ha:PA3 X (e::es) t)(he:isStar e=ao)(hp:(rm pos (jg es X.env)).any (·.1)=ao):bY X (.Call (.Name x p) (e::es) [] pos) (kJ (aIW X.K b) t):=by
 obtain⟨h1,h2,h3,h4⟩:=Q.gl _ _ _ hk hv
 have cm:ahY b=ao->X.calm=ak:=λz=>by
  rw[z,Bool.or_false]at hc;exact Q.cm hc
 cases b with
 |len=>exact tK aHW h1 h4.1 h4.2 ha h3 h2 (aZ he) hp
 |isi=>exact tK abY h1 h4.1 h4.2 ha h3 h2 (aZ he) hp
 |sum=>exact tK (aIB (cm rfl)) h1 h4.1 h4.2 ha h3 h2 (aZ he) hp
 |aaO=>exact a0E (avO (cm rfl) Q.hu) h1 h4.1 h4.2 ha h3 h2 (aZ he) hp
 |a79=>exact tK avH h1 h4.1 h4.2 ha h3 h2 (aZ he) hp
 |aqN=>exact tK aCH h1 h4.1 h4.2 ha h3 h2 (aZ he) hp
 |aaP=>exact tK (avR (cm rfl)) h1 h4.1 h4.2 ha h3 h2 (aZ he) hp
 |af0=>exact a0E (avU (cm rfl)) h1 h4.1 h4.2 ha h3 h2 (aZ he) hp
 |akG=>exact tK (aw5 Q.hu) h1 h4.1 h4.2 ha h3 h2 (aZ he) hp
 |af2=>exact a0E aw7 h1 h4.1 h4.2 ha h3 h2 (aZ he) hp
theorem awF(ho:bY X o to)(hb:bL o=ak)(hl:(ap.endLine==cp.line)=ak):bY X (.Call (.Attribute o (mkN m) ap) [] [] cp) (aBU (mkT m) (mkR m) to):=by
 cases m with
 |append=>exact ayQ PySem.F.plainAttrs_list PySem.F.slot_list_append PySem.F.type_list_append ae8 ho (iC hb) hl
 |pop=>exact ayQ PySem.F.plainAttrs_list PySem.F.slot_list_pop PySem.F.type_list_pop ayW ho (iC hb) hl
theorem aqU{t:sS}(ho:bY X o to)(ha:PA3 X (e::es) t)(hb:bL o=ak)(hl:(ap.endLine==cp.line)=ak)(hk:rB S cs (e::es)=ak)(hn:(e::es).length<30) :
  bY X (.Call (.Attribute o (mkN m) ap) (e::es) [] cp) (tM3 (mkT m) (mkR m) to t):=by
 have he:isStar e=ao:=by
  cases cs with
  |nil=>exact absurd (show ao=ak from hk) (by decide)
  |cons c r =>
   have h':(!isStar e&&kE S c e&&rB S r es)=ak:=hk;simp only[bx,iu]at h';exact h'.1.1
 have hp:(rm cp (jg es X.env)).any (·.1)=ao:=by
  have:=oE (env:=X.env) (pos:=cp) hk;rw[aZ he]at this;have z:(ao||(rm cp (jg es X.env)).any (·.1))=ao:=this;simpa using z
 cases m with
 |append=>exact aI0 PySem.F.plainAttrs_list PySem.F.slot_list_append PySem.F.type_list_append ae8 ho ha (iC hb) (zK hk hn) hl (aZ he) hp
 |pop=>exact aI0 PySem.F.plainAttrs_list PySem.F.slot_list_pop PySem.F.type_list_pop ayW ho ha (iC hb) (zK hk hn) hl (aZ he) hp
theorem aJ1{m:DM}{t:sS}(hu:X.A.units+64<jl)(ho:bY X o to)(ha:PA3 X (e::es) t)(hb:bL o=ak)(hl:(ap.endLine==cp.line)=ak)(hk:rB S cs (e::es)=ak)(hn:(e::es).length<30) :
  bY X (.Call (.Attribute o (dmN m) ap) (e::es) [] cp) (ahM (dmR m) to t):=by
 have he:isStar e=ao:=by
  cases cs with
  |nil=>exact absurd (show ao=ak from hk) (by decide)
  |cons c r =>
   have h':(!isStar e&&kE S c e&&rB S r es)=ak:=hk;simp only[bx,iu]at h';exact h'.1.1
 have hp:(rm cp (jg es X.env)).any (·.1)=ao:=by
  have:=oE (env:=X.env) (pos:=cp) hk;rw[aZ he]at this;have z:(ao||(rm cp (jg es X.env)).any (·.1))=ao:=this;simpa using z
 cases m with
 |sdf=>exact aII PySem.F.slot_dict_setdefault PySem.F.type_dict_setdefault (aIJ hu) ho ha (iC hb) (zK hk hn) hl (aZ he) hp
 |pop=>exact aII PySem.F.slot_dict_pop PySem.F.type_dict_pop (aCG hu) ho ha (iC hb) (zK hk hn) hl (aZ he) hp
local macro_rules| `(tactic| walk_at "off")=>`(tactic| exact absurd (show ao=ak from by assumption) (by decide))
set_option tactic.hygienic true in
theorem aDF(Q:lE X S ex){k:Nat}(h:kE S (.glo k) (.Name x p)=ak):bY X (.Name x p) (aD4 S.gl k):=by
 have h':(S.gv[k]?==aj ak&&aqQ S k x)=ak:=h;rw[bx]at h';obtain⟨hv,h⟩:=h';have hv:=beq_iff_eq.mp hv;unfold aqQ at h;unfold aD4;split at h
 .rename_i y d hk;have:=beq_iff_eq.mp h;subst this;obtain⟨h1,h2,h3,u,v,h4,h5,h6⟩:=Q.gl _ _ _ hk hv;exact aoH h1 h4 h5 h6 h2
 .rename_i y d hk;have:=beq_iff_eq.mp h;subst this;obtain⟨h1,h2,h3,h4⟩:=Q.gl _ _ _ hk hv;exact aoH h1 h4.1 (v:=.ref d) rfl (λ_=>.ref _) h2
 .rename_i y d hk;have:=beq_iff_eq.mp h;subst this;obtain⟨h1,h2,h3,h4⟩:=Q.gl _ _ _ hk hv;exact aB7 h1 h4.1 h4.2 h3 h2
 .exact absurd h (by decide)
set_option tactic.hygienic true in
theorem awG(Q:lE X S ex){k:Nat}{xs:List jk}(ha:PA3 X xs (mA S.gl X.K ex es))(hk:rB S es xs=ak)(hv:S.gv[k]?=aj ak)(h:akI S k x (!xs.isEmpty)=ak):bY X (.Call (.Name x p) xs [] pos) (aD5 S.gl X.K ex k (mA S.gl X.K ex es)):=by
 unfold akI at h;unfold aD5
 have one:∀{e:jk}{r:List jk},xs=e::r->isStar e=ao/\(rm pos (jg r X.env)).any (·.1)=ao:=λ{e r} z=>by
  subst z;cases es with
  |nil=>exact absurd (show ao=ak from hk) (by decide)
  |cons c cr =>
   have h':(!isStar e&&kE S c e&&rB S cr r)=ak:=hk;simp only[bx,iu]at h';exact⟨h'.1.1,oE h'.2⟩
 split at h
 .rename_i y sp n qt hg;rw[bx]at h;obtain⟨h,hc⟩:=h;have:=beq_iff_eq.mp h;subst this;obtain⟨h1,h2,h3,h4⟩:=Q.gl _ _ _ hg hv;obtain⟨j,f,fd,ps,F,hr,hm,hkp,hb⟩:=h4 (a2p _ _ |>.mp hc);cases xs with
  |nil =>
   cases es with
   |nil=>exact aqS F hr h1 hm hkp hb Q.cat h2
   |cons _ _=>exact absurd (show ao=ak from hk) (by decide)
  |cons e r=>exact auT F hr h1 hm hkp hb Q.cat ha h2 (aZ (one rfl).1) (one rfl).2
 .rename_i y a hg;have:=beq_iff_eq.mp h;subst this;obtain⟨h1,h2,h3,h4,h5⟩:=Q.gl _ _ _ hg hv;cases xs with
  |nil =>
   cases es with
   |nil=>exact aC9 PySem.F.excBase_ValueError (by decide) PySem.F.excBase_ValueError h1 h4 h5 h2
   |cons _ _=>exact absurd (show ao=ak from hk) (by decide)
  |cons e r=>exact aIE PySem.F.excBase_ValueError (by decide) PySem.F.excBase_ValueError h1 h4 h5 ha h2 (aZ (one rfl).1) (one rfl).2
 .rename_i y b hg;rw[bx,bx]at h;obtain⟨⟨h,hc⟩,hcm⟩:=h;have:=beq_iff_eq.mp h;subst this;cases xs with
  |nil=>exact absurd (show ao=ak from hc) (by decide)
  |cons e r=>exact aJ0 Q hg hv hcm ha (one rfl).1 (one rfl).2
 .rename_i y n hg;rw[bx]at h;obtain⟨h,hc⟩:=h;have:=beq_iff_eq.mp h;subst this;obtain⟨h1,h2,h3,h4⟩:=Q.gl _ _ _ hg hv;cases xs with
  |nil=>exact absurd (show ao=ak from hc) (by decide)
  |cons e r=>exact a0E aIZ h1 h4.1 h4.2 ha h3 h2 (aZ (one rfl).1) (one rfl).2
 .rename_i y C sp dd hg;rw[bx]at h;obtain⟨h,hc⟩:=h;have:=beq_iff_eq.mp h;subst this;obtain⟨h1,h2,h3,h4⟩:=Q.gl _ _ _ hg hv;obtain⟨kk,f,fd,ps,ds,xB,q1,q2,q3,q4,q5,q6,q7⟩:=h4 hc;cases xs with
  |nil =>
   cases es with
   |nil=>exact apJ q1 q2 q3 h1 q4 q5 q6 q7 Q.cat h2
   |cons _ _=>exact absurd (show ao=ak from hk) (by decide)
  |cons e r=>exact avC q1 q2 q3 h1 q4 q5 q6 q7 Q.cat ha h2 (aZ (one rfl).1) (one rfl).2
 .exact absurd h (by decide)
theorem oF{names:List (Str×vm)}{k:vm}(h:names.lookup y=aj k) :
  (names.map λ(n,k)=>if(k==.free&&env.scope.kind==.function&&env.kindOf n==aj .cell)then(n,.cell)else(n,k)).lookup y=aj k ∨
  (k=.free/\(names.map λ(n,k)=>if(k==.free&&env.scope.kind==.function&&env.kindOf n==aj .cell)then(n,.cell)else(n,k)).lookup y=aj .cell):=by
 induction names with
 |nil=>simp at h
 |cons p r ih =>
  obtain⟨n,kd⟩:=p;rw[ud]at h;show xq y ((if(kd==.free&&env.scope.kind==.function&&env.kindOf n==aj .cell)=ak then(n,vm.cell)else(n,kd))::_)=aj k∨(k=.free/\xq y ((if(kd==.free&&env.scope.kind==.function&&env.kindOf n==aj .cell)=ak then(n,vm.cell)else(n,kd))::_)=aj .cell);cases hx:y==n with
  |true =>
   rw[hx]at h;have hkd:kd=k:=by simpa using h
   subst hkd;by_cases hc:(kd==.free&&env.scope.kind==.function&&env.kindOf n==aj .cell)=ak
   .rw[if_pos hc,ud,hx];refine .inr ⟨?_,rfl⟩;simp only[bx,beq_iff_eq]at hc;exact hc.1.1
   .rw[if_neg hc,ud,hx];exact .inl rfl
  |false =>
   rw[hx]at h;have z:=ih h;by_cases hc:(kd==.free&&env.scope.kind==.function&&env.kindOf n==aj .cell)=ak
   .rw[if_pos hc,ud,hx];exact z
   .rw[if_neg hc,ud,hx];exact z
theorem aaR:∀{xs:List Str},acL xs=ak->xs.Nodup
 |[],_=>a0q
 |x::r,h=>by
  have h':(!r.contains x&&acL r)=ak:=h;rw[bx]at h';exact qy.mpr ⟨by simpa using h'.1,aaR h'.2⟩
theorem a3Z{xs:List Str}{scope:yp}{fl gv:List Bool}(h:aaQ S xs scope fl gv=ak) :
  scope.kind=.function/\(∀y∈scope.names,y.2≠.cell/\(y.2=.local->scope.names.lookup y.1=aj .local)/\(y.2=.free->aDC S y.1=ak)) /\
  (∀x∈xs,scope.names.lookup x=aj .local/\x∉S.N/\(x==("__debug__":Str))=ao/\(x==("__classdict__":Str))=ao)/\xs.Nodup/\(∀y∈S.N,scope.names.lookup y≠aj .local) /\
  (∀(i:Nat)(y:Str),S.N[i]?=aj y->fl[i]?=aj ak->S.fl[i]?=aj ak/\scope.names.lookup y=aj .free) /\
  ∀(k:Nat)(y:Str)(g:GT),S.gl[k]?=aj (y,g)->gv[k]?=aj ak->scope.names.lookup y=aj .globalImplicit:=by
 unfold aaQ at h;simp only[bx]at h;obtain⟨⟨⟨⟨⟨⟨h1,h2⟩,h3⟩,h4⟩,h5⟩,h8⟩,h9⟩:=h;refine⟨beq_iff_eq.mp h1,λy hy=>?_,λx hx=>?_,aaR h4,λy hy=>?_,λi y e1 e2=>?_,λk y g e1 e2=>?_⟩
 .have z:=jy.mp h2 y hy;simp only[bx,bne_iff_ne,ne_eq,a2p,beq_iff_eq]at z;obtain⟨⟨z1,z2⟩,z3⟩:=z;exact⟨z1,λe=>z2.resolve_left λn=>n e,λe=>z3.resolve_left λn=>n e⟩
 .have z:=jy.mp h3 x hx;simp only[bx]at z;obtain⟨⟨⟨z1,z2⟩,z3⟩,z4⟩:=z;exact⟨beq_iff_eq.mp z1,by simpa using z2,by simpa using z3,by simpa using z4⟩
 .have z:=jy.mp h5 y hy;simpa using z
 .have z:=jy.mp h8 i (xg.mpr (ji.mp e1).1);rw[e2,e1]at z;simpa using z
 .have z:=jy.mp h9 k (xg.mpr (ji.mp e1).1);rw[e2,e1]at z;simpa using z
theorem a2R(Q:lE X S ex){fl gv:List Bool}(h:aaQ S xs scope fl gv=ak):zH X xs scope:=by
 obtain⟨h1,h2,h3,h4,h5,h8,h9⟩:=a3Z h;refine⟨h1,λy hy=>(h2 y hy).1,λy hy=>(h2 y hy).2.1,λx hx=>(h3 x hx).1,λy hy e=>?_,λx hx=>by rw[Q.N];exact(h3 x hx).2.1,h4,by rw[Q.N];exact h5⟩;have z:=(h2 y hy).2.2 e;unfold aDC at z;obtain⟨i,_,z⟩:=List.any_eq_true.mp z;rw[bx]at z;exact Q.ce i y.1 (beq_iff_eq.mp z.1) (beq_iff_eq.mp z.2)
theorem aDG{X:Cx}:Cat X NoX:=⟨by rintro _ _ _ _ _ _ _ _ _ ⟨_,_,_,_,_,_,_,_,_,_,_,_,_,_,_,_,z⟩;exact z.elim⟩
theorem aaS{α:Type}{xs ys:List α}{i:Nat}{y:α}(h:(xs++ys)[i]?=aj y):(i<xs.length/\y∈xs)∨∃j,i=xs.length+j/\ys[j]?=aj y:=by
 by_cases c:i<xs.length
 .rw[a0o c]at h;exact .inl ⟨c,jx h⟩
 .rw[yq (by omega)]at h;exact .inr ⟨i - xs.length,by omega,h⟩
theorem akJ{α β:Type}{xs:List α}{f:α->β}{ys:List β}:(xs.map f++ys)[xs.length+j]?=ys[j]?:=by
 rw[yq (by simp)];congr 1;simp
theorem lE.cmp(Q:lE X S ex){fl gv:List Bool}(h:aaQ S xs scope fl gv=ak)(C:bw)(s:dh)(H:Hp)(fp:List bw)(pins:List (bw×Obj)):lE (qL X xs scope C s H fp pins) (S.cmp xs fl gv) NoX:=by
 obtain⟨h1,h2,h3,h4,h5,h8,h9⟩:=a3Z h;refine⟨by show xs++X.N=xs++S.N;rw[Q.N],ap3 (a2R Q h) Q.nd,λi y e1 e2=>?_,λi y e1 e2=>?_,λk y g e1=>?_,Q.hu,Q.cm,aDG⟩
 .rcases aaS e1 with⟨_,m⟩|⟨j,rfl,e1'⟩
  .obtain⟨a1,a2,a3,a4⟩:=h3 y m;exact⟨.inl (lookup_relabel_local a1),a3,a4⟩
  .have e2':fl[j]?=aj ak:=akJ.symm.trans e2;obtain⟨a1,a2⟩:=h8 j y e1' e2';obtain⟨_,b2,b3⟩:=Q.vis j y e1' a1;refine⟨?_,b2,b3⟩;rcases oF (env:=X.env) a2 with z|⟨_,z⟩
   .exact .inr (.inr z)
   .exact .inr (.inl z)
 .rcases aaS e1 with⟨c,m⟩|⟨j,rfl,e1'⟩
  .have e2':(xs.map (λ_=>ao)++fl)[i]?=aj ak:=e2;rw[a0o (by simpa using c)]at e2';simp at e2'
  .have e2':fl[j]?=aj ak:=akJ.symm.trans e2;obtain⟨a1,a2⟩:=h8 j y e1' e2';rcases oF (env:=X.env) a2 with z|⟨_,z⟩
   .exact .inr z
   .exact .inl z
 .obtain⟨b1,b2,b3,b4⟩:=Q.gm k y g e1;refine⟨λe2=>?_,b2,b3,?_⟩
  .rcases oF (env:=X.env) (h9 k y g e1 e2)with z|⟨z,_⟩
   .exact z
   .cases z
  .cases g<;>exact b4
theorem akK{o:qx}(hu:X.A.units+64<jl)(h:(o==(if neg then qx.NotEq else qx.Eq))=ak):jY X (jd o) (aqP neg):=by
 have:=beq_iff_eq.mp h;subst this;cases neg with
 |true=>exact aID hu
 |false=>exact aIC hu
set_option tactic.hygienic true in
theorem af3(Q:lE X S ex)(h:a0R S=ak):Gl X "range"/\X.mg "range"=bh:=by
 unfold a0R at h;obtain⟨k,_,h⟩:=List.any_eq_true.mp h;rw[bx]at h;obtain⟨hv,h⟩:=h;split at h
 .rename_i y n e;rw[bx]at h;have:=beq_iff_eq.mp h.1;subst this;obtain⟨g1,g2,g3,g4⟩:=Q.gl _ _ _ e (beq_iff_eq.mp hv);exact⟨g1,g4.1⟩
 .exact absurd h (by decide)
set_option tactic.hygienic true in
theorem akL{k:Nat}(h:amV S k x=ak):∃y C,S.gl[k]?=aj (y,.fl C x):=by
 unfold amV at h;split at h
 .rename_i y C f e;have:=beq_iff_eq.mp h;subst this;exact⟨y,C,e⟩
 .exact absurd h (by decide)
set_option tactic.hygienic true in
theorem awH{k:Nat}(h:awC S k x=ak):∃y C sp dd,S.gl[k]?=aj (y,.me C x sp dd):=by
 unfold awC at h;split at h
 .rename_i y C m sp dd e;have:=beq_iff_eq.mp h;subst this;exact⟨y,C,sp,dd,e⟩
 .exact absurd h (by decide)
theorem aqV{o:qx}(hu:X.A.units+64<jl)(h:(o==(if neg then qx.NotIn else qx.In))=ak):jY X (jd o) (aD8 neg):=by
 have:=beq_iff_eq.mp h;subst this;cases neg with
 |true=>exact aCB hu
 |false=>exact aIH hu
theorem awI{m:Str}{args:List jk}(hb:uh o m env (eval o env)=eval o env)(hf:((rm cp (jg args env)).all (λx=>!x.1)&&(backToKw cp (a0b [] env)).all (λx=>x.1.isSome)
   &&decide (args.length+([]:List a0j).length+(if([]:List a0j).isEmpty then 0 else 1)<30))=ak)(hl:(ap.endLine==cp.line)=ak):∃pl:Sem Bool,eval (.Call (.Attribute o m ap) args [] cp) env=(do
   let ov ←eval o env
   standAt ap.atName
   let(f,first) ←holding [ov] (getMethod ov m pl)
   callWith cp f first (rm cp (jg args env)) (backToKw cp (a0b [] env))):=by
 rw[arm_eval_Call,hb];have hform:methodCallForm (args.length+([]:List a0j).length) (rm cp (jg args env)) (backToKw cp (a0b [] env))=ak:=hf;have hpos:methodCallPos ak o env ap cp=pure cp:=by unfold methodCallPos;simp[hl]
 refine⟨?_,?_⟩
 rotate_left
 .unfold methodCall;rw[hform];simp only[hpos,pure_bind];rfl
set_option tactic.hygienic true in
theorem akM(Q:lE X S ex){k:Nat}{nm:String}(h:amW S k x nm=ak)(hv:S.gv[k]?=aj ak):Gl X x/\X.mg x=bh/\ni x=aj (.builtin nm)/\x≠"__name__"/\(x==("__debug__":Str))=ao:=by
 unfold amW at h;split at h
 .rename_i y b e;rw[bx]at h;have e1:=beq_iff_eq.mp h.1;have e2:=beq_iff_eq.mp h.2;subst e1;obtain⟨g1,g2,g3,g4⟩:=Q.gl _ _ _ e hv;exact⟨g1,g4.1,by rw[←e2];exact g4.2,g3,g2⟩
 .exact absurd h (by decide)
set_option tactic.hygienic true in
theorem awJ(Q:lE X S ex){k:Nat}{nm:String}(h:awD S k x nm=ak)(hv:S.gv[k]?=aj ak):Gl X x/\X.mg x=bh/\ni x=aj (.type nm)/\x≠"__name__"/\(x==("__debug__":Str))=ao:=by
 unfold awD at h;split at h
 .rename_i y b e;rw[bx]at h;have e1:=beq_iff_eq.mp h.1;have e2:=beq_iff_eq.mp h.2;subst e1;obtain⟨g1,g2,g3,g4⟩:=Q.gl _ _ _ e hv;exact⟨g1,g4.1,by rw[←e2];exact g4.2,g3,g2⟩
 .exact absurd h (by decide)
theorem a7B{w:jk}{l:Bool}(h:vP w=aj (y,n,l)):∃ap cp,w=.Call (.Attribute y n ap) [] [] cp/\l=(ap.endLine==cp.line):=by
 unfold vP at h;split at h
 .cases h;exact⟨_,_,rfl,rfl⟩
 .cases h
theorem aqW{o:qx}(hu:X.A.units+64<jl)(h:(o==(if neg then qx.NotEq else qx.Eq))=ak):jY X (jd o) (aaF neg):=by
 have:=beq_iff_eq.mp h;subst this;exact aIM hu
theorem aqX(h:isSet e=ao):∀x,a1h e env x=pure x:=by
 cases e<;>first|(intro _;rfl)|exact absurd (show ak=ao from h) (by decide)
end
end L4
namespace L4
open PySem PySem.Spec PyProof.Rows L2
theorem aR{P:Prop}(h:ao=ak):P:=absurd h (by decide)
mutual
theorem eZ{X:Cx}{S:SI}{ex:aO->aX}(Q:lE X S ex):∀(c:CE)(e:jk),kE S c e=ak->bY X e (mE S.gl X.K ex c)
 |.var i,e,h=>by
  cases e with
  |Name x p =>
   have h':(S.N[i]?==aj x&&S.fl[i]?==aj ak)=ak:=h;rw[bx]at h';have e1:=beq_iff_eq.mp h'.1;obtain⟨v1,v2,v3⟩:=Q.vis i x e1 (beq_iff_eq.mp h'.2);exact aH0 i (by rw[Q.N];exact e1) v1 v2 v3
  |_=>exact aR h
 |.con d,e,h=>by
  cases e with
  |Constant c j p=>exact aDD h
  |_=>exact aR h
 |.glo k,e,h=>by
  cases e with
  |Name x p=>exact aDF Q h
  |_=>exact aR h
 |.neg a,e,h=>by
  cases e with
  |UnaryOp op x p =>
   cases op with
   |USub=>exact aHU (eZ Q a x h)
   |_=>exact aR h
  |_=>exact aR h
 |.aw8 a,e,h=>by
  cases e with
  |UnaryOp op x p =>
   cases op with
   |Not=>exact aHB (eZ Q a x h)
   |_=>exact aR h
  |_=>exact aR h
 |.bin o a b,e,h=>by
  cases e with
  |BinOp x o' y p =>
   have h':(o==o'&&kE S a x&&kE S b y)=ak:=h;simp only[bx]at h';have:=beq_iff_eq.mp h'.1.1;subst this;exact aM1 awE (eZ Q a x h'.1.2) (eZ Q b y h'.2)
  |_=>exact aR h
 |.cmp o a b,e,h=>by
  cases e with
  |Compare x ops ys p =>
   match ops,ys,h with
   |[o'],[y],h =>
    have h':(o==o'&&!behindInMarks o' y&&kE S a x&&kE S b y)=ak:=h;simp only[bx,iu]at h';have:=beq_iff_eq.mp h'.1.1.1;subst this;exact ajJ (xG Q.hu) (eZ Q a x h'.1.2) (eZ Q b y h'.2) h'.1.1.2
   |[],_,h=>exact aR h
   |_::_::_,_,h=>exact aR h
   |[_],[],h=>exact aR h
   |[_],_::_::_,h=>exact aR h
  |_=>exact aR h
 |.chain o o' a b c,e,h=>by
  cases e with
  |Compare x ops ys p =>
   match ops,ys,h with
   |[p1,p2],[y,z],h =>
    have h':(o==p1&&o'==p2&&!lastMarks [p1,p2] [y,z]&&kE S a x&&kE S b y&&kE S c z)=ak:=h;simp only[bx,iu]at h';have e1:=beq_iff_eq.mp h'.1.1.1.1.1;have e2:=beq_iff_eq.mp h'.1.1.1.1.2;subst e1;subst e2;exact auM (xG Q.hu) (xG Q.hu) (eZ Q a x h'.1.1.2) (eZ Q b y h'.1.2) (eZ Q c z h'.2) h'.1.1.1.2
   |[],_,h=>exact aR h
   |[_],_,h=>exact aR h
   |_::_::_::_,_,h=>exact aR h
   |[_,_],[],h=>exact aR h
   |[_,_],[_],h=>exact aR h
   |[_,_],_::_::_::_,h=>exact aR h
  |_=>exact aR h
 |.amT es,e,h=>by
  cases e with
  |BoolOp op xs p =>
   cases op with
   |And=>exact azD Q es xs p h
   |Or=>exact aR h
  |_=>exact aR h
 |.tup es,e,h=>by
  cases e with
  |Tuple xs j p=>exact aHC (okA Q es xs h)
  |_=>exact aR h
 |.lst es,e,h=>by
  cases e with
  |List xs p=>exact aHD (okA Q es xs h)
  |_=>exact aR h
 |.dct,e,h=>by
  cases e with
  |Dict ks vs p =>
   match ks,vs,h with
   |[],[],_=>exact aBV
   |_::_,_,h=>exact aR h
   |[],_::_,h=>exact aR h
  |_=>exact aR h
 |.ix a b,e,h=>by
  cases e with
  |Subscript x y p =>
   have h':(!isSlice y&&kE S a x&&kE S b y)=ak:=h;simp only[bx,iu]at h';exact aM9 (eZ Q a x h'.1.2) (eZ Q b y h'.2) (aqT h'.1.1)
  |_=>exact aR h
 |.call k es,e,h=>by
  cases e with
  |Call f xs kws p =>
   cases f with
   |Name x q =>
    cases kws with
    |nil =>
     have h':(rB S es xs&&S.gv[k]?==aj ak&&akI S k x (!xs.isEmpty))=ak:=h;simp only[bx]at h';exact awG Q (okA Q es xs h'.1.1) h'.1.1 (beq_iff_eq.mp h'.1.2) h'.2
    |cons _ _=>exact aR h
   |_=>exact aR h
  |_=>exact aR h
 |.meth m o .nil,e,h=>by
  cases e with
  |Call f xs kws p =>
   cases f with
   |Attribute y n ap =>
    cases kws with
    |nil =>
     have h':(n==mkN m&&bL y&&ap.endLine==p.line&&decide (xs.length<30)&&kE S o y&&rB S .nil xs)=ak:=h;simp only[bx]at h';obtain⟨⟨⟨⟨⟨h1,h2⟩,h3⟩,h4⟩,h5⟩,h6⟩:=h';have:=beq_iff_eq.mp h1;subst this;cases xs with
     |nil=>exact awF (eZ Q o y h5) h2 h3
     |cons _ _=>exact aR h6
    |cons _ _=>exact aR h
   |_=>exact aR h
  |_=>exact aR h
 |.meth m o (.cons c r),e,h=>by
  cases e with
  |Call f xs kws p =>
   cases f with
   |Attribute y n ap =>
    cases kws with
    |nil =>
     have h':(n==mkN m&&bL y&&ap.endLine==p.line&&decide (xs.length<30)&&kE S o y&&rB S (.cons c r) xs)=ak:=h;simp only[bx]at h';obtain⟨⟨⟨⟨⟨h1,h2⟩,h3⟩,h4⟩,h5⟩,h6⟩:=h';have:=beq_iff_eq.mp h1;subst this;cases xs with
     |nil=>exact aR h6
     |cons x xs =>
      have h7:(!isStar x&&kE S c x&&rB S r xs)=ak:=h6;simp only[bx,iu]at h7;exact aqU (eZ Q o y h5) (zE (eZ Q c x h7.1.2) (okA Q r xs h7.2) (aZ h7.1.1)) h2 h3 h6 (of_decide_eq_true h4)
    |cons _ _=>exact aR h
   |_=>exact aR h
  |_=>exact aR h
 |.comp fl gv ci cc c,e,h=>by
  cases e with
  |ListComp elt gens scope p =>
   cases gens with
   |nil=>exact aR h
   |cons g gr =>
    cases gr with
    |cons _ _=>obtain⟨tg,it,ifs,a⟩:=g;cases tg<;>exact aR h
    |nil =>
     obtain⟨tg,it,ifs,a⟩:=g;cases tg with
     |Name x px =>
      have h':(a==0&&aaQ S [x] scope fl gv&&!isSet it&&kI S ao ci it&&kC (S.cmp [x] fl gv) cc ifs&&kE (S.cmp [x] fl gv) c elt)=ak:=h;simp only[bx,iu]at h';obtain⟨⟨⟨⟨⟨h2,h3⟩,h4⟩,h5⟩,h6⟩,h7⟩:=h';have:=beq_iff_eq.mp h2;subst this;exact av4 (a2R Q h3) (λC s H fp pins σ=>aC3 (a2R Q h3) Q.nd) ap2 (okI (tt:=false) Q (λz=>nomatch z) ci it h5) (λC s H fp pins=>okC (Q.cmp h3 C s H fp pins) cc ifs h6) (λC s H fp pins=>eZ (Q.cmp h3 C s H fp pins) c elt h7) (aqX h4)
     |_=>exact aR h
  |_=>exact aR h
 |.fld k c,e,h=>by
  cases e with
  |Attribute y n p =>
   have h':(amV S k n&&bL y&&kE S c y)=ak:=h;simp only[bx]at h';obtain⟨z,C,hg⟩:=akL h'.1.1;obtain⟨_,_,_,g⟩:=Q.gm _ _ _ hg;show bY X _ (aD6 S.gl k _);unfold aD6;rw[hg];exact aIF (eZ Q c y h'.2) g.1 g.2 (iC h'.1.2)
  |_=>exact aR h
 |.jP k c cs,e,h=>by
  cases e with
  |Call f as ks p =>
   cases f with
   |Attribute y n ap =>
    cases ks with
    |cons _ _=>exact aR h
    |nil =>
     have h':(awC S k n&&S.calm&&bL y&&ap.endLine==p.line&&decide (as.length<30)&&kE S c y&&rB S cs as)=ak:=h;simp only[bx]at h';obtain⟨⟨⟨⟨⟨⟨h1,h2⟩,h3⟩,h4⟩,h5⟩,h6⟩,h7⟩:=h';obtain⟨z,C,sp,dd,hg⟩:=awH h1;obtain⟨_,_,_,g⟩:=Q.gm _ _ _ hg;obtain⟨kk,f,fd,ps,ds,xB,q1,q2,q3,q4,q5,q6,q7⟩:=g h2;obtain⟨pl,ht⟩:=awI (env:=X.env) (m:=n) (iC h3) (zK (X:=X) (cp:=p) h7 (of_decide_eq_true h5)) h4;show bY X _ (aD7 S.gl ex k _ _);unfold aD7;rw[hg];cases cs with
     |nil =>
      cases as with
      |cons _ _=>exact aR h7
      |nil=>exact apI (eZ Q c y h6) q1 q2 q3 q4 q5 q6 q7 Q.cat ht
     |cons c1 cr =>
      cases as with
      |nil=>exact aR h7
      |cons a1 ar =>
       have h8:(!isStar a1&&kE S c1 a1&&rB S cr ar)=ak:=h7;simp only[bx,iu]at h8;exact avB (eZ Q c y h6) q1 q2 q3 q4 q5 q6 q7 Q.cat (zE (eZ Q c1 a1 h8.1.2) (okA Q cr ar h8.2) (aZ h8.1.1)) (aZ h8.1.1) (oE h8.2) ht
   |_=>exact aR h
  |_=>exact aR h
 |.dix a b,e,h=>by
  cases e with
  |Subscript x y p =>
   have h':(!isSlice y&&kE S a x&&kE S b y)=ak:=h;simp only[bx,iu]at h';exact aIG Q.hu (eZ Q a x h'.1.2) (eZ Q b y h'.2) (aqT h'.1.1)
  |_=>exact aR h
 |.din neg a b,e,h=>by
  cases e with
  |Compare x ops ys p =>
   match ops,ys,h with
   |[o'],[y],h =>
    have h':(o'==(if neg then qx.NotIn else qx.In)&&!behindInMarks o' y&&kE S a x&&kE S b y)=ak:=h;simp only[bx,iu]at h';exact ajJ (aqV Q.hu h'.1.1.1) (eZ Q a x h'.1.2) (eZ Q b y h'.2) h'.1.1.2
   |[],_,h=>exact aR h
   |_::_::_,_,h=>exact aR h
   |[_],[],h=>exact aR h
   |[_],_::_::_,h=>exact aR h
  |_=>exact aR h
 |.dgt c d f,e,h=>by
  cases e with
  |Call g as ks p =>
   cases g with
   |Attribute y n ap =>
    match as,ks,h with
    |[],_,h=>exact aR h
    |[_],_,h=>exact aR h
    |_::_::_::_,_,h=>exact aR h
    |[_,_],_::_,h=>exact aR h
    |[x,z],[],h =>
     have h':(n==("get":Str)&&bL y&&ap.endLine==p.line&&!isStar x&&!isStar z&&kE S c y&&kE S d x&&kE S f z)=ak:=h;simp only[bx,iu]at h';obtain⟨⟨⟨⟨⟨⟨⟨h0,h1⟩,h2⟩,h3⟩,h4⟩,h5⟩,h6⟩,h7⟩:=h';have:=beq_iff_eq.mp h0;subst this
     have k2:rB S (.cons d (.cons f .nil)) [x,z]=ak:=by
      show(!isStar x&&kE S d x&&(!isStar z&&kE S f z&&ak))=ak;rw[h3,h4,h6,h7];rfl
     exact avD Q.hu (eZ Q c y h5) (eZ Q d x h6) (eZ Q f z h7) ⟨iC h1,zK (X:=X) (cp:=p) k2 (show 2<30 by decide),h2,by rw[aZ h3,aZ h4];rfl⟩
   |_=>exact aR h
  |_=>exact aR h
 |.awB,e,h=>by
  cases e with
  |Dict ks vs p =>
   match ks,vs,h with
   |[],[],_=>exact aw2
   |_::_,_,h=>exact aR h
   |[],_::_,h=>exact aR h
  |_=>exact aR h
 |.nix a b,e,h=>by
  cases e with
  |Subscript x y p =>
   have h':(!isSlice y&&kE S a x&&kE S b y)=ak:=h;simp only[bx,iu]at h';exact aIS Q.hu (eZ Q a x h'.1.2) (eZ Q b y h'.2) (aqT h'.1.1)
  |_=>exact aR h
 |.ngt c d f,e,h=>by
  cases e with
  |Call g as ks p =>
   cases g with
   |Attribute y n ap =>
    match as,ks,h with
    |[],_,h=>exact aR h
    |[_],_,h=>exact aR h
    |_::_::_::_,_,h=>exact aR h
    |[_,_],_::_,h=>exact aR h
    |[x,z],[],h =>
     have h':(n==("get":Str)&&bL y&&ap.endLine==p.line&&!isStar x&&!isStar z&&kE S c y&&kE S d x&&kE S f z)=ak:=h;simp only[bx,iu]at h';obtain⟨⟨⟨⟨⟨⟨⟨h0,h1⟩,h2⟩,h3⟩,h4⟩,h5⟩,h6⟩,h7⟩:=h';have:=beq_iff_eq.mp h0;subst this
     have k2:rB S (.cons d (.cons f .nil)) [x,z]=ak:=by
      show(!isStar x&&kE S d x&&(!isStar z&&kE S f z&&ak))=ak;rw[h3,h4,h6,h7];rfl
     exact aCW Q.hu (eZ Q c y h5) (eZ Q d x h6) (eZ Q f z h7) ⟨iC h1,zK (X:=X) (cp:=p) k2 (show 2<30 by decide),h2,by rw[aZ h3,aZ h4];rfl⟩
   |_=>exact aR h
  |_=>exact aR h
 |.listI k c,e,h=>by
  cases e with
  |Call f as ks p =>
   cases f with
   |Name x q =>
    match as,ks,h with
    |[],_,h=>exact aR h
    |_::_::_,_,h=>exact aR h
    |[_],_::_,h=>exact aR h
    |[w],[],h =>
     have h':(S.calm&&S.gv[k]?==aj ak&&awD S k x "list"&&(match vP w with
      |some (y,n,l)=>l&&n==("items":Str)&&bL y&&kE S c y
      |none=>ao))=ak:=h
     simp only[bx]at h';obtain⟨⟨⟨h1,h2⟩,h3⟩,h4⟩:=h';cases q2:vP w with
     |none=>rw[q2]at h4;exact aR h4
     |some z =>
      obtain⟨y,n,l⟩:=z;rw[q2]at h4;simp only[bx]at h4;obtain⟨⟨⟨h5,h6⟩,h7⟩,h8⟩:=h4;have e6:=beq_iff_eq.mp h6;subst e6;obtain⟨ap,cp,rfl,rfl⟩:=a7B q2;obtain⟨g1,g2,g3,g4,g5⟩:=awJ Q h3 (beq_iff_eq.mp h2);exact aw6 (Q.cm h1) (eZ Q c y h8) g1 g2 g3 g4 g5 (iC h7) h5
   |_=>exact aR h
  |_=>exact aR h
 |.thw i c,e,h=>aIU (eZ Q c e h)
 |.amU,e,h=>by
  cases e with
  |Dict ks vs p =>
   match ks,vs,h with
   |[],[],_=>exact auY
   |_::_,_,h=>exact aR h
   |[],_::_,h=>exact aR h
  |_=>exact aR h
 |.dm m o c r,e,h=>by
  cases e with
  |Call f xs kws p =>
   cases f with
   |Attribute y n ap =>
    match xs,kws,h with
    |[],_,h=>exact aR h
    |_::_,_::_,h=>exact aR h
    |x::xs,[],h =>
     have h':(n==dmN m&&bL y&&ap.endLine==p.line&&decide ((x::xs).length<30)&&kE S o y&&!isStar x&&kE S c x&&rB S r xs)=ak:=h;simp only[bx]at h';obtain⟨⟨⟨⟨⟨⟨⟨h1,h2⟩,h3⟩,h4⟩,h5⟩,h6⟩,h7⟩,h8⟩:=h';have:=beq_iff_eq.mp h1;subst this
     have hk:rB S (.cons c r) (x::xs)=ak:=by
      show(!isStar x&&kE S c x&&rB S r xs)=ak;rw[h6,h7,h8];rfl
     simp only[iu]at h6;exact aJ1 Q.hu (eZ Q o y h5) (zE (eZ Q c x h7) (okA Q r xs h8) (aZ h6)) h2 h3 hk (of_decide_eq_true h4)
   |_=>exact aR h
  |_=>exact aR h
 |.sortI k c,e,h=>by
  cases e with
  |Call f as ks p =>
   cases f with
   |Name x q =>
    match as,ks,h with
    |[],_,h=>exact aR h
    |_::_::_,_,h=>exact aR h
    |[_],_::_,h=>exact aR h
    |[w],[],h =>
     have h':(S.calm&&S.gv[k]?==aj ak&&amW S k x "sorted"&&(match vP w with
      |some (y,n,l)=>l&&n==("items":Str)&&bL y&&kE S c y
      |none=>ao))=ak:=h
     simp only[bx]at h';obtain⟨⟨⟨h1,h2⟩,h3⟩,h4⟩:=h';cases q2:vP w with
     |none=>rw[q2]at h4;exact aR h4
     |some z =>
      obtain⟨y,n,l⟩:=z;rw[q2]at h4;simp only[bx]at h4;obtain⟨⟨⟨h5,h6⟩,h7⟩,h8⟩:=h4;have e6:=beq_iff_eq.mp h6;subst e6;obtain⟨ap,cp,rfl,rfl⟩:=a7B q2;obtain⟨g1,g2,g3,g4,g5⟩:=akM Q h3 (beq_iff_eq.mp h2);exact avV (Q.cm h1) (eZ Q c y h8) g1 g2 g3 g4 g5 (iC h7) h5
   |_=>exact aR h
  |_=>exact aR h
 |.awA k c,e,h=>by
  cases e with
  |Call f as ks p =>
   cases f with
   |Name x q =>
    match as,ks,h with
    |[],_,h=>exact aR h
    |_::_::_,_,h=>exact aR h
    |[_],_::_,h=>exact aR h
    |[w],[],h =>
     have h':(S.calm&&S.gv[k]?==aj ak&&amW S k x "sum"&&(match vP w with
      |some (y,n,l)=>l&&n==("values":Str)&&bL y&&kE S c y
      |none=>ao))=ak:=h
     simp only[bx]at h';obtain⟨⟨⟨h1,h2⟩,h3⟩,h4⟩:=h';cases q2:vP w with
     |none=>rw[q2]at h4;exact aR h4
     |some z =>
      obtain⟨y,n,l⟩:=z;rw[q2]at h4;simp only[bx]at h4;obtain⟨⟨⟨h5,h6⟩,h7⟩,h8⟩:=h4;have e6:=beq_iff_eq.mp h6;subst e6;obtain⟨ap,cp,rfl,rfl⟩:=a7B q2;obtain⟨g1,g2,g3,g4,g5⟩:=akM Q h3 (beq_iff_eq.mp h2);exact aCO (Q.cm h1) (eZ Q c y h8) g1 g2 g3 g4 g5 (iC h7) h5
   |_=>exact aR h
  |_=>exact aR h
 |.deq neg a b,e,h=>by
  cases e with
  |Compare x ops ys p =>
   match ops,ys,h with
   |[o'],[y],h =>
    have h':(o'==(if neg then qx.NotEq else qx.Eq)&&kE S a x&&kE S b y)=ak:=h;simp only[bx]at h'
    have hb:uw o' y=ao:=by
     have:=beq_iff_eq.mp h'.1.1;subst this;exact rD _ (by cases neg<;>decide) (by cases neg<;>decide)
    exact ajJ (aqW Q.hu h'.1.1) (eZ Q a x h'.1.2) (eZ Q b y h'.2) hb
   |[],_,h=>exact aR h
   |_::_::_,_,h=>exact aR h
   |[_],[],h=>exact aR h
   |[_],_::_::_,h=>exact aR h
  |_=>exact aR h
 |.eqd neg a b,e,h=>by
  cases e with
  |Compare x ops ys p =>
   match ops,ys,h with
   |[o'],[y],h =>
    have h':(o'==(if neg then qx.NotEq else qx.Eq)&&kE S a x&&kE S b y)=ak:=h;simp only[bx]at h'
    have hb:uw o' y=ao:=by
     have:=beq_iff_eq.mp h'.1.1;subst this;exact rD _ (by cases neg<;>decide) (by cases neg<;>decide)
    exact ajJ (akK Q.hu h'.1.1) (eZ Q a x h'.1.2) (eZ Q b y h'.2) hb
   |[],_,h=>exact aR h
   |_::_::_,_,h=>exact aR h
   |[_],[],h=>exact aR h
   |[_],_::_::_,h=>exact aR h
  |_=>exact aR h
theorem okA{X:Cx}{S:SI}{ex:aO->aX}(Q:lE X S ex):∀(c:CEs)(es:List jk),rB S c es=ak->PA3 X es (mA S.gl X.K ex c)
 |.nil,es,h=>by
  cases es with
  |nil=>exact aoJ
  |cons _ _=>exact aR h
 |.cons c r,es,h=>by
  cases es with
  |nil=>exact aR h
  |cons x xs =>
   have h7:(!isStar x&&kE S c x&&rB S r xs)=ak:=h;simp only[bx,iu]at h7;exact zE (eZ Q c x h7.1.2) (okA Q r xs h7.2) (aZ h7.1.1)
theorem azD{X:Cx}{S:SI}{ex:aO->aX}(Q:lE X S ex):∀(c:CEs)(es:List jk)(p:Pos),rB S c es=ak->bY X (.BoolOp .And es p) (aD9 S.gl X.K ex c)
 |.nil,es,p,h=>aqR
 |.cons c .nil,es,p,h=>by
  match es,h with
  |[],h=>exact aR h
  |[x],h =>
   have h7:(!isStar x&&kE S c x&&rB S .nil [])=ak:=h;simp only[bx,iu]at h7;exact ayM (eZ Q c x h7.1.2)
  |x::y::ys,h =>
   have h7:(!isStar x&&kE S c x&&rB S .nil (y::ys))=ak:=h;simp only[bx,iu]at h7;exact aR h7.2
 |.cons c (.cons c' r),es,p,h=>by
  match es,h with
  |[],h=>exact aR h
  |[x],h =>
   have h7:(!isStar x&&kE S c x&&rB S (.cons c' r) [])=ak:=h;simp only[bx,iu]at h7;exact aR h7.2
  |x::y::ys,h =>
   have h7:(!isStar x&&kE S c x&&rB S (.cons c' r) (y::ys))=ak:=h;simp only[bx,iu]at h7;exact aHA (eZ Q c x h7.1.2) (azD Q (.cons c' r) (y::ys) p h7.2)
theorem aN4{X:Cx}{S:SI}{ex:aO->aX}(Q:lE X S ex):∀(c:CEs)(es:List jk)(p:Pos),rB S c es=ak->bY X (.BoolOp .Or es p) (mOr S.gl X.K ex c)
 |.nil,es,p,h=>aqR
 |.cons c .nil,es,p,h=>by
  match es,h with
  |[],h=>exact aR h
  |[x],h =>
   have h7:(!isStar x&&kE S c x&&rB S .nil [])=ak:=h;simp only[bx,iu]at h7;exact ayM (eZ Q c x h7.1.2)
  |x::y::ys,h =>
   have h7:(!isStar x&&kE S c x&&rB S .nil (y::ys))=ak:=h;simp only[bx,iu]at h7;exact aR h7.2
 |.cons c (.cons c' r),es,p,h=>by
  match es,h with
  |[],h=>exact aR h
  |[x],h =>
   have h7:(!isStar x&&kE S c x&&rB S (.cons c' r) [])=ak:=h;simp only[bx,iu]at h7;exact aR h7.2
  |x::y::ys,h =>
   have h7:(!isStar x&&kE S c x&&rB S (.cons c' r) (y::ys))=ak:=h;simp only[bx,iu]at h7;exact aM3 (eZ Q c x h7.1.2) (aN4 Q (.cons c' r) (y::ys) p h7.2)
theorem okT{X:Cx}{S:SI}{ex:aO->aX}(Q:lE X S ex):∀(c:CT)(e:jk),kT S c e=ak->PT3 X e (mT S.gl X.K ex c)
 |.cmp o a b,e,h=>by
  cases e with
  |Compare x ops ys p =>
   match ops,ys,h with
   |[o'],[y],h =>
    have h':(o==o'&&!behindInMarks o' y&&kE S a x&&kE S b y)=ak:=h;simp only[bx,iu]at h';have:=beq_iff_eq.mp h'.1.1.1;subst this;exact ae0 (xG Q.hu) (eZ Q a x h'.1.2) (eZ Q b y h'.2) h'.1.1.2
   |[],_,h=>exact aR h
   |_::_::_,_,h=>exact aR h
   |[_],[],h=>exact aR h
   |[_],_::_::_,h=>exact aR h
  |_=>exact aR h
 |.chain o o' a b c,e,h=>by
  cases e with
  |Compare x ops ys p =>
   match ops,ys,h with
   |[p1,p2],[y,z],h =>
    have h':(o==p1&&o'==p2&&!lastMarks [p1,p2] [y,z]&&kE S a x&&kE S b y&&kE S c z)=ak:=h;simp only[bx,iu]at h';have e1:=beq_iff_eq.mp h'.1.1.1.1.1;have e2:=beq_iff_eq.mp h'.1.1.1.1.2;subst e1;subst e2;exact auN (xG Q.hu) (xG Q.hu) (eZ Q a x h'.1.1.2) (eZ Q b y h'.1.2) (eZ Q c z h'.2) h'.1.1.1.2
   |[],_,h=>exact aR h
   |[_],_,h=>exact aR h
   |_::_::_::_,_,h=>exact aR h
   |[_,_],[],h=>exact aR h
   |[_,_],[_],h=>exact aR h
   |[_,_],_::_::_::_,h=>exact aR h
  |_=>exact aR h
 |.not t,e,h=>by
  cases e with
  |UnaryOp op x p =>
   cases op with
   |Not=>exact aH9 (okT Q t x h)
   |_=>exact aR h
  |_=>exact aR h
 |.or ts,e,h=>by
  cases e with
  |BoolOp op xs p =>
   cases op with
   |Or=>exact PW.pt (azG Q ts xs p h)
   |And=>exact aR h
  |_=>exact aR h
 |.din neg a b,e,h=>by
  cases e with
  |Compare x ops ys p =>
   match ops,ys,h with
   |[o'],[y],h =>
    have h':(o'==(if neg then qx.NotIn else qx.In)&&!behindInMarks o' y&&kE S a x&&kE S b y)=ak:=h;simp only[bx,iu]at h';exact ae0 (aqV Q.hu h'.1.1.1) (eZ Q a x h'.1.2) (eZ Q b y h'.2) h'.1.1.2
   |[],_,h=>exact aR h
   |_::_::_,_,h=>exact aR h
   |[_],[],h=>exact aR h
   |[_],_::_::_,h=>exact aR h
  |_=>exact aR h
 |.eqd neg a b,e,h=>by
  cases e with
  |Compare x ops ys p =>
   match ops,ys,h with
   |[o'],[y],h =>
    have h':(o'==(if neg then qx.NotEq else qx.Eq)&&kE S a x&&kE S b y)=ak:=h;simp only[bx]at h'
    have hb:uw o' y=ao:=by
     have:=beq_iff_eq.mp h'.1.1;subst this;exact rD _ (by cases neg<;>decide) (by cases neg<;>decide)
    exact ae0 (akK Q.hu h'.1.1) (eZ Q a x h'.1.2) (eZ Q b y h'.2) hb
   |[],_,h=>exact aR h
   |_::_::_,_,h=>exact aR h
   |[_],[],h=>exact aR h
   |[_],_::_::_,h=>exact aR h
  |_=>exact aR h
 |.nld a b,e,h=>by
  cases e with
  |Compare x ops ys p =>
   match ops,ys,h with
   |[o'],[y],h =>
    have h':(o'==qx.NotEq&&kE S a x&&kE S b y)=ak:=h;simp only[bx]at h'
    have hb:uw o' y=ao:=by
     have:=beq_iff_eq.mp h'.1.1;subst this;exact rD _ (by decide) (by decide)
    obtain rfl:=beq_iff_eq.mp h'.1.1;exact ae0 (aD0 Q.hu) (eZ Q a x h'.1.2) (eZ Q b y h'.2) hb
   |[],_,h=>exact aR h
   |_::_::_,_,h=>exact aR h
   |[_],[],h=>exact aR h
   |[_],_::_::_,h=>exact aR h
  |_=>exact aR h
 |.deq neg a b,e,h=>by
  cases e with
  |Compare x ops ys p =>
   match ops,ys,h with
   |[o'],[y],h =>
    have h':(o'==(if neg then qx.NotEq else qx.Eq)&&kE S a x&&kE S b y)=ak:=h;simp only[bx]at h'
    have hb:uw o' y=ao:=by
     have:=beq_iff_eq.mp h'.1.1;subst this;exact rD _ (by cases neg<;>decide) (by cases neg<;>decide)
    exact ae0 (aqW Q.hu h'.1.1) (eZ Q a x h'.1.2) (eZ Q b y h'.2) hb
   |[],_,h=>exact aR h
   |_::_::_,_,h=>exact aR h
   |[_],[],h=>exact aR h
   |[_],_::_::_,h=>exact aR h
  |_=>exact aR h
 |.val c,e,h=>by
  have h':(plainT e&&kE S c e)=ak:=h;rw[bx]at h';exact aH5 (eZ Q c e h'.2) (aDE h'.1)
theorem aDH{X:Cx}{S:SI}{ex:aO->aX}(Q:lE X S ex):∀(c:CTs)(es:List jk)(p:Pos),kTs S c es=ak->PW3 X (.BoolOp .And es p) (azB S.gl X.K ex c)
 |.nil,es,p,h=>λ_ _ _ _ _ _ _ ⟨_,_,_,_,_,z,_⟩=>z.elim
 |.cons c .nil,es,p,h=>by
  match es,h with
  |[],h=>exact aR h
  |[x],h =>
   have h7:(kT S c x&&kTs S .nil [])=ak:=h;simp only[bx]at h7;exact aB9 (okT Q c x h7.1)
  |x::y::ys,h =>
   have h7:(kT S c x&&kTs S .nil (y::ys))=ak:=h;simp only[bx]at h7;exact aR h7.2
 |.cons c (.cons c' r),es,p,h=>by
  match es,h with
  |[],h=>exact aR h
  |[x],h =>
   have h7:(kT S c x&&kTs S (.cons c' r) [])=ak:=h;simp only[bx]at h7;exact aR h7.2
  |x::y::ys,h =>
   have h7:(kT S c x&&kTs S (.cons c' r) (y::ys))=ak:=h;simp only[bx]at h7;exact aH8 (okT Q c x h7.1) (aDH Q (.cons c' r) (y::ys) p h7.2)
theorem azG{X:Cx}{S:SI}{ex:aO->aX}(Q:lE X S ex):∀(c:CTs)(es:List jk)(p:Pos),kTs S c es=ak->PW3 X (.BoolOp .Or es p) (aDA S.gl X.K ex c)
 |.nil,es,p,h=>λ_ _ _ _ _ _ _ ⟨_,_,_,_,_,z,_⟩=>z.elim
 |.cons c .nil,es,p,h=>by
  match es,h with
  |[],h=>exact aR h
  |[x],h =>
   have h7:(kT S c x&&kTs S .nil [])=ak:=h;simp only[bx]at h7;exact aH7 (okT Q c x h7.1)
  |x::y::ys,h =>
   have h7:(kT S c x&&kTs S .nil (y::ys))=ak:=h;simp only[bx]at h7;exact aR h7.2
 |.cons c (.cons c' r),es,p,h=>by
  match es,h with
  |[],h=>exact aR h
  |[x],h =>
   have h7:(kT S c x&&kTs S (.cons c' r) [])=ak:=h;simp only[bx]at h7;exact aR h7.2
  |x::y::ys,h =>
   have h7:(kT S c x&&kTs S (.cons c' r) (y::ys))=ak:=h;simp only[bx]at h7;exact aM2 (okT Q c x h7.1) (azG Q (.cons c' r) (y::ys) p h7.2)
theorem okO{X:Cx}{S:SI}{ex:aO->aX}(Q:lE X S ex):∀(c:CO)(e:Option jk),kO S c e=ak->PO3 X e (mO S.gl X.K ex c)
 |.none,e,h=>by
  cases e with
  |none=>exact aBE
  |some _=>exact aR h
 |.some c,e,h=>by
  cases e with
  |none=>exact aR h
  |some x=>exact aBF (eZ Q c x h)
theorem okI{X:Cx}{S:SI}{ex:aO->aX}(Q:lE X S ex){tg:jk}{tt:Bool}(htt:tt=ak->X.calm=ak/\∃es kt pt,tg=.Tuple es kt pt):∀(c:CI)(e:jk),kI S tt c e=ak->PI3 X tg e (mI S.gl X.K ex c)
 |.any c,e,h=>aI1 (eZ Q c e h)
 |.ahW c,e,h=>by
  cases e with
  |Call f as ks p =>
   cases f with
   |Name r q =>
    cases as with
    |nil=>exact aR h
    |cons y yr =>
     cases yr with
     |cons _ _=>exact aR h
     |nil =>
      cases ks with
      |cons _ _=>exact aR h
      |nil =>
       have h':(r==("range":Str)&&a0R S&&!isStar y&&kE S c y)=ak:=h;simp only[bx,iu]at h';obtain⟨⟨⟨h1,h2⟩,h3⟩,h4⟩:=h';have:=beq_iff_eq.mp h1;subst this;obtain⟨g1,g2⟩:=af3 Q h2;exact aBY g1 g2 (zE (eZ Q c y h4) aoJ (aZ h3)) (aZ h3)
   |_=>exact aR h
  |_=>exact aR h
 |.keys c,e,h=>by
  have h':(S.calm&&kE S c e)=ak:=h;rw[bx]at h';exact aCS (Q.cm h'.1) (eZ Q c e h'.2)
 |.yR c,e,h=>by
  have h':(S.calm&&kE S c e)=ak:=h;rw[bx]at h';exact aw3 (Q.cm h'.1) (eZ Q c e h'.2)
theorem okC{X:Cx}{S:SI}(Q:lE X S NoX):∀(c:CC)(es:List jk),kC S c es=ak->aoY X es (mC S.gl X.K c)
 |.none,es,h=>by
  cases es with
  |nil=>exact av2
  |cons _ _=>exact aR h
 |.some t,es,h=>by
  match es,h with
  |[],h=>exact aR h
  |[x],h=>exact av3 (okT Q t x h)
  |_::_::_,h=>exact aR h
end
end L4
namespace L4
open PySem PySem.Spec PyProof.Rows L2
inductive CTg where
 |nm (i:Nat)|tup (is:List Nat)
mutual
inductive CS where
 |ret (e:CE)|expr (e:CE)|ifs (t:CT) (a b:CB)|set (i:Nat) (e:CE)
 |raise (k:Nat) (e:CE) (es:CEs)|pass
 |af4 (ci:CI) (tg:CTg) (b:CB)|awK (ci:CI) (tg:CTg) (b:CB)
 |awL (t:CT) (b:CB)|amX (k:Nat) (o e:CE)|ahZ (o i e:CE)|setM (o i e:CE)|hid (i:Nat) (nm:Str) (s:CS)
inductive CB where
 |nil|cons (s:CS) (r:CB)
end
noncomputable def azH:bK:=λ_ _ _=>False
noncomputable abbrev SI.hid(S:SI)(i:Nat)(nm:Str):SI:={S with N:=S.N.set i nm,fl:=S.fl.set i ao,lc:=S.lc.set i ao,ce:=S.ce.set i ao}
noncomputable def mIS(T:List (Str×GT))(K:Fg)(ex:aO->aX):CI->TI3
 |.any e=>ahL (mE T K ex e)
 |.ahW e=>a2D (aA (mE T K ex e) aG)
 |.keys e=>oA ak (mE T K ex e)
 |.yR _=>λ_ _ _=>False
noncomputable def mIF(T:List (Str×GT))(K:Fg)(ex:aO->aX):CI->TI3
 |.keys e=>oA ao (mE T K ex e)
 |_=>λ_ _ _=>False
noncomputable def mG:CTg->TG3
 |.nm i=>qN i
 |.tup is=>ayS is
noncomputable def awM(T:List (Str×GT))(ex:aO->aX)(k:Nat)(t:sS):bK:=match T[k]? with
 |some (_,.cls a)=>m6 ex a t
 |_=>azH
noncomputable def aDI(T:List (Str×GT))(k:Nat)(to te:bV):bK:=match T[k]? with
 |some (_,.fl C f)=>a2H C to te f
 |_=>azH
noncomputable def akN(S:SI)(k:Nat)(x:Str):Bool:=match S.gl[k]? with
 |some (z,.cls _)=>z==x
 |_=>ao
mutual
noncomputable def mS(T:List (Str×GT))(K:Fg)(ex:aO->aX):CS->bK
 |.ret e=>dY (mE T K ex e)
 |.expr e=>bR (mE T K ex e)
 |.ifs t a b=>jL (mT T K ex t) (mB T K ex a) (mB T K ex b)
 |.set i e=>f9 i (mE T K ex e)
 |.raise k e es=>awM T ex k (aA (mE T K ex e) (mA T K ex es))
 |.af4 ci tg b=>vJ (mIS T K ex ci) (mG tg) (mB T K ex b)
 |.awK ci tg b=>a5P (mIF T K ex ci) (mG tg) (mB T K ex b)
 |.awL t b=>ac4 (mT T K ex t) (mB T K ex b)
 |.amX k o e=>aDI T k (mE T K ex o) (mE T K ex e)
 |.ahZ o i e=>zJ (mE T K ex o) (mE T K ex i) (mE T K ex e)
 |.setM o i e=>acJ (mE T K ex o) (mE T K ex i) (mE T K ex e)
 |.hid i _ s=>ak1 i (mS T K (λρ=>ex (tG ρ i)) s)
 |.pass=>dI
noncomputable def mB(T:List (Str×GT))(K:Fg)(ex:aO->aX):CB->bK
 |.nil=>dI
 |.cons s .nil=>mS T K ex s
 |.cons s (.cons s' r)=>aW (mS T K ex s) (mB T K ex (.cons s' r))
end
noncomputable def isTup:jk->Bool
 |.Tuple ..=>ak
 |_=>ao
noncomputable def oG:jk->Bool
 |.ListComp ..=>ak
 |.SetComp ..=>ak
 |.DictComp ..=>ak
 |_=>ao
noncomputable def kTg(S:SI):CTg->jk->Bool
 |.nm i,.Name x _=>S.N[i]?==aj x&&S.fl[i]?==aj ak
 |.tup is,.Tuple es _ _=>kNs S is es
 |_,_=>ao
where
 kNs (S:SI):List Nat->List jk->Bool
 |[],[]=>ak
 |i::is,.Name x _::es=>S.N[i]?==aj x&&S.fl[i]?==aj ak&&kNs S is es
 |_,_=>ao
noncomputable def aqY(S:SI):CTg->Bool
 |.nm _=>ak
 |.tup _=>S.calm
mutual
noncomputable def kS(S:SI)(lv:Nat):CS->qp->Bool
 |.ret e,.Return (aj x) _=>kE S e x
 |.expr e,.Expr x _=>!oG x&&kE S e x
 |.ifs t a b,.If x y z _=>kT S t x&&kB S lv a y&&kB S lv b z
 |.set i e,.Assign [.Name x _] y _=>S.N[i]?==aj x&&S.fl[i]?==aj ak&&!oG y&&kE S e y
 |.raise k e es,.Raise (aj (.Call (.Name x _) (y::ys) [] _)) bh _=>lv==0&&S.calm&&!isStar y&&kE S e y&&rB S es ys&&S.gv[k]?==aj ak&&akN S k x
 |.amX k o e,.Assign [.Attribute x n _] z _=>amV S k n&&!oG z&&kE S o x&&kE S e z
 |.ahZ o i e,.Assign [.Subscript x y _] z _=>!isSlice y&&!oG z&&kE S o x&&kE S i y&&kE S e z
 |.setM o i e,.Assign [.Subscript x y _] z _=>!isSlice y&&!oG z&&kE S o x&&kE S i y&&kE S e z
 |.hid i nm s,st=>!S.N.contains nm&&kS (S.hid i nm) lv s st
 |.awL t b,.While x y [] _=>lv !=1&&kT S t x&&kB S lv b y
 |.af4 ci tg b,.For tgt iter body [] _=>lv !=1&&aqY S tg&&!isSet iter&&kTg S tg tgt&&kI S (isTup tgt&&S.calm) ci iter&&kB S lv b body
 |.awK ci tg b,.For tgt iter body [] _=>lv !=1&&aqY S tg&&!isSet iter&&kTg S tg tgt&&kI S (isTup tgt&&S.calm) ci iter&&kB S lv b body
 |.pass,.Pass _=>ak
 |_,_=>ao
noncomputable def kB(S:SI)(lv:Nat):CB->List qp->Bool
 |.nil,[]=>ak
 |.cons s r,x::xs=>kS S lv s x&&kB S lv r xs
 |_,_=>ao
end
structure a98(X:Cx)(S:SI)(ex:aO->aX)(lv:Nat):Prop where
 si:lE X S ex
 loc:∀(i:Nat)(x:Str),S.N[i]?=aj x->S.fl[i]?=aj ak->Loc X.env.scope x
 lcl:∀(i:Nat)(x:Str),S.N[i]?=aj x->S.lc[i]?=aj ak->X.env.kindOf x=aj .local
 fn:∀x,X.fn x=ak
 cls:∀(k:Nat)(x:Str)(a:bw),S.gl[k]?=aj (x,.cls a)->S.gv[k]?=aj ak->yg X.K a BMv "ValueError.__new__"=ak/\(zq X.K a).isSome=ak/\a1V X.K (.ref a)=aj (.type "type")/\a2g X.K (.ref a) (.type "BaseException")=aj ak
 l0:lv≠1->a1y (fj X.prog X.w) X.A X.env X.xe
 rz:lv=0->S.calm=ak->Thr X ex
 stk:X.stack=X.env::X.outer
 frm:X.env.frame=aj X.env.locals
theorem af5{t:Option jk}{n:Nat}{env:Env}(h:oG e=ao):a0z e t n env=pure ao:=by
 cases e<;>first|rfl|exact absurd (show ak=ao from h) (by decide)
variable{ex:aO->aX}{lv:Nat}
theorem a98.tr(Q:a98 X S ex lv)(pn:List (bw×Obj))(EX:aO->aX):a98 (aHT X pn EX) S EX 1 where
 si:=⟨Q.si.N,Q.si.nd,Q.si.vis,Q.si.ce,λk x g h=>by
  obtain⟨h1,h2,h3,h4⟩:=Q.si.gm k x g h;refine⟨h1,h2,h3,?_⟩;cases g<;>exact h4,Q.si.hu,Q.si.cm,aMF pn EX⟩
 loc:=Q.loc
 lcl:=Q.lcl
 fn:=Q.fn
 cls:=Q.cls
 l0:=λz=>absurd rfl z
 rz:=λz=>absurd z (by decide)
 stk:=Q.stk
 frm:=Q.frm
variable{x:Str}
set_option tactic.hygienic true in
theorem aqZ{S:SI}{k:Nat}(h:akN S k x=ak):∃a,S.gl[k]?=aj (x,.cls a):=by
 unfold akN at h;split at h
 .rename_i z a hg;have:=beq_iff_eq.mp h;subst this;exact⟨a,hg⟩
 .exact aR h
theorem awN{k:Nat}{a:bw}{t:sS}(h:T[k]?=aj (x,.cls a)):awM T ex k t=m6 ex a t:=by unfold awM;rw[h]
theorem ar0{X:Cx}{S:SI}(Q:a98 X S ex lv){k:Nat}{pos:Pos}(h:kS S lv (.raise k e es) (.Raise (aj (.Call (.Name x np) (y::ys) [] cp)) bh pos)=ak) :
  PS3 X (.Raise (aj (.Call (.Name x np) (y::ys) [] cp)) bh pos) (awM S.gl ex k (aA (mE S.gl X.K ex e) (mA S.gl X.K ex es))):=by
 have h':(lv==0&&S.calm&&!isStar y&&kE S e y&&rB S es ys&&S.gv[k]?==aj ak&&akN S k x)=ak:=h;simp only[bx,iu]at h';obtain⟨⟨⟨⟨⟨⟨h0,hcm⟩,h1⟩,h2⟩,h3⟩,hv⟩,h⟩:=h';have hv:=beq_iff_eq.mp hv;obtain⟨a,hg⟩:=aqZ h;rw[awN hg];have l1:=Q.si.cm hcm;have l2:=Q.rz (beq_iff_eq.mp h0) hcm;obtain⟨g1,g2,g3,g4,g5⟩:=Q.si.gl _ _ _ hg hv;exact auU l1 PySem.F.excBase_ValueError (by decide) PySem.F.excBase_ValueError g1 g4 (Q.cls _ _ _ hg hv).1 l2 (zE (eZ Q.si e y h2) (okA Q.si es ys h3) (aZ h1)) g2 (aZ h1) (oE h3)
theorem ar3{ex:aO->aX}{lv:Nat}(Q:a98 X S ex lv):∀{is:List Nat}{es:List jk},kTg.kNs S is es=ak->Two (aC5 X) es is
 |[],[],_=>.nil
 |[],_::_,h=>by exact aR h
 |_::_,[],h=>by exact aR h
 |i::is,e::es,h=>by
  cases e with
  |Name x p =>
   have h':(S.N[i]?==aj x&&S.fl[i]?==aj ak&&kTg.kNs S is es)=ak:=h;simp only[bx]at h';have e1:=beq_iff_eq.mp h'.1.1;exact .cons ⟨x,p,rfl,by rw[Q.si.N];exact e1,Q.loc i x e1 (beq_iff_eq.mp h'.1.2),.inl (Q.fn x)⟩ (ar3 Q h'.2)
  |_=>exact aR h
theorem azI(Q:a98 X S ex lv):∀{c:CTg}{e:jk},aqY S c=ak->kTg S c e=ak->PG3 X e (mG c)
 |.nm i,e,_,h=>by
  cases e with
  |Name x p =>
   have h':(S.N[i]?==aj x&&S.fl[i]?==aj ak)=ak:=h;simp only[bx]at h';have e1:=beq_iff_eq.mp h'.1;exact aC4 Q.si.nd (by rw[Q.si.N];exact e1) (Q.loc i x e1 (beq_iff_eq.mp h'.2)) (.inl (Q.fn x))
  |_=>exact aR h
 |.tup is,e,hc,h=>by
  cases e with
  |Tuple es k p=>exact aI7 Q.si.nd (Q.si.cm hc) (ar3 Q h)
  |_=>exact aR h
variable{tt:Bool}
theorem aN5{X:Cx}{S:SI}(Q:lE X S ex)(htt:tt=ak->X.calm=ak/\∃es kt pt,tg=.Tuple es kt pt):∀(c:CI)(e:jk),kI S tt c e=ak->PIS X tg e (mIS S.gl X.K ex c)
 |.any c,e,h=>aC7 (eZ Q c e h)
 |.ahW c,e,h=>by
  cases e with
  |Call f as ks p =>
   cases f with
   |Name r q =>
    cases as with
    |nil=>exact aR h
    |cons y yr =>
     cases yr with
     |cons _ _=>exact aR h
     |nil =>
      cases ks with
      |cons _ _=>exact aR h
      |nil =>
       have h':(r==("range":Str)&&a0R S&&!isStar y&&kE S c y)=ak:=h;simp only[bx,iu]at h';obtain⟨⟨⟨h1,h2⟩,h3⟩,h4⟩:=h';have:=beq_iff_eq.mp h1;subst this;obtain⟨g1,g2⟩:=af3 Q h2;exact av6 g1 g2 (zE (eZ Q c y h4) aoJ (aZ h3)) (aZ h3)
   |_=>exact aR h
  |_=>exact aR h
 |.keys c,e,h=>by
  have h':(S.calm&&kE S c e)=ak:=h;rw[bx]at h';exact avZ (Q.cm h'.1) (eZ Q c e h'.2)
 |.yR c,e,h=>λ_ _ _ _ _ _ ⟨_,_,_,_,_,z,_⟩=>z.elim
theorem ai0:PIF X tg e (λ_ _ _=>False):=λ_ _ _ _ _ _ ⟨_,_,_,_,_,z,_⟩=>z.elim
theorem aN6{X:Cx}{S:SI}(Q:lE X S ex)(htt:tt=ak->X.calm=ak/\∃es kt pt,tg=.Tuple es kt pt):∀(c:CI)(e:jk),kI S tt c e=ak->PIF X tg e (mIF S.gl X.K ex c)
 |.any c,e,h=>ai0
 |.ahW c,e,h=>ai0
 |.yR a,e,h=>ai0
 |.keys c,e,h=>by
  have h':(S.calm&&kE S c e)=ak:=h;rw[bx]at h';exact aw0 (Q.cm h'.1) (eZ Q c e h'.2)
variable{i:Nat}
theorem acM{j:Nat}{l:List Bool}(h:(l.set i ao)[j]?=aj ak):i≠j/\l[j]?=aj ak:=by
 by_cases c:i=j
 .subst c;by_cases k:i<l.length
  .rw[a2f k]at h;cases h
  .rw[a1n (by rw[List.length_set];omega)]at h;cases h
 .rw[vf c]at h;exact⟨c,h⟩
theorem aDK{S:SI}{nm:Str}(Q:lE X S ex)(n:nm∉S.N):lE (acA X i nm) (S.hid i nm) (λρ=>ex (tG ρ i)) where
 N:=by show X.N.set i _=S.N.set i _;rw[Q.N]
 nd:=a6Z Q.nd (by rw[Q.N];exact n)
 vis:=λj x e1 e2=>by
  obtain⟨c,e2⟩:=acM e2;have e1:(S.N.set i nm)[j]?=aj x:=e1;rw[vf c]at e1;exact Q.vis j x e1 e2
 ce:=λj x e1 e2=>by
  obtain⟨c,e2⟩:=acM e2;have e1:(S.N.set i nm)[j]?=aj x:=e1;rw[vf c]at e1;exact Q.ce j x e1 e2
 gm:=λk x g e=>by
  obtain⟨a,b,c,d⟩:=Q.gm k x g e;refine⟨a,b,c,?_⟩;cases g<;>exact d
 hu:=Q.hu
 cm:=Q.cm
 cat:=apV Q.cat
theorem aDL{S:SI}{nm:Str}(Q:a98 X S ex lv)(n:nm∉S.N):a98 (acA X i nm) (S.hid i nm) (λρ=>ex (tG ρ i)) lv where
 si:=aDK Q.si n
 loc:=λj x e1 e2=>by
  obtain⟨c,e2⟩:=acM e2;have e1:(S.N.set i nm)[j]?=aj x:=e1;rw[vf c]at e1;exact Q.loc j x e1 e2
 lcl:=λj x e1 e2=>by
  obtain⟨c,e2⟩:=acM e2;have e1:(S.N.set i nm)[j]?=aj x:=e1;rw[vf c]at e1;exact Q.lcl j x e1 e2
 fn:=Q.fn
 cls:=Q.cls
 l0:=Q.l0
 rz:=λa b=>apW (Q.rz a b)
 stk:=Q.stk
 frm:=Q.frm
theorem af6(h:isTup e=ak):∃es kt pt,e=.Tuple es kt pt:=by
 cases e<;>first|exact⟨_,_,_,rfl⟩|exact aR h
mutual
theorem okS:∀(c:CS){X:Cx}{S:SI}{ex:aO->aX}{lv:Nat},a98 X S ex lv->∀(st:qp),kS S lv c st=ak->PS3 X st (mS S.gl X.K ex c)
 |.hid i nm c,X,S,ex,lv,Q,st,h=>by
  have h':(!S.N.contains nm&&kS (S.hid i nm) lv c st)=ak:=by
   cases st<;>exact h
  rw[bx,iu]at h'
  exact aCM (okS c (aDL Q (by
   intro z;rw[List.contains_iff_mem.mpr z]at h';cases h'.1)) st h'.2)
 |.ret e,X,S,ex,lv,Q,st,h=>by
  cases st with
  |Return v p =>
   cases v with
   |some x=>exact aHP (eZ Q.si e x h)
   |none=>exact aR h
  |_=>exact aR h
 |.expr e,X,S,ex,lv,Q,st,h=>by
  cases st with
  |Expr x p =>
   have h':(!oG x&&kE S e x)=ak:=h;simp only[bx,iu]at h';exact aBJ (eZ Q.si e x h'.2) (af5 h'.1)
  |_=>exact aR h
 |.ifs t a b,X,S,ex,lv,Q,st,h=>by
  cases st with
  |If x y z p =>
   have h':(kT S t x&&kB S lv a y&&kB S lv b z)=ak:=h;simp only[bx]at h';exact aMB (okT Q.si t x h'.1.1) (okB a Q y h'.1.2) (okB b Q z h'.2)
  |_=>exact aR h
 |.set i e,X,S,ex,lv,Q,st,h=>by
  cases st with
  |Assign ts y p =>
   cases ts with
   |nil=>exact aR h
   |cons t r =>
    cases r with
    |cons _ _=>cases t<;>exact aR h
    |nil =>
     cases t with
     |Name x q =>
      have h':(S.N[i]?==aj x&&S.fl[i]?==aj ak&&!oG y&&kE S e y)=ak:=h;simp only[bx,iu]at h';have e1:=beq_iff_eq.mp h'.1.1.1;exact aHQ (i:=i) Q.si.nd (by rw[Q.si.N];exact e1) (Q.loc i x e1 (beq_iff_eq.mp h'.1.1.2)) (eZ Q.si e y h'.2) (af5 h'.1.2) (.inl (Q.fn x))
     |_=>exact aR h
  |_=>exact aR h
 |.amX k o e,X,S,ex,lv,Q,st,h=>by
  cases st with
  |Assign ts z p =>
   cases ts with
   |nil=>exact aR h
   |cons t r =>
    cases r with
    |cons _ _=>cases t<;>exact aR h
    |nil =>
     cases t with
     |Attribute x n q =>
      have h':(amV S k n&&!oG z&&kE S o x&&kE S e z)=ak:=h;simp only[bx,iu]at h';obtain⟨y,C,hg⟩:=akL h'.1.1.1;obtain⟨_,_,_,g⟩:=Q.si.gm _ _ _ hg;show PS3 X _ (aDI S.gl k _ _);unfold aDI;rw[hg];exact aCA (eZ Q.si o x h'.1.2) (eZ Q.si e z h'.2) g.1 g.2 (af5 h'.1.1.2)
     |_=>exact aR h
  |_=>exact aR h
 |.setM o i e,X,S,ex,lv,Q,st,h=>by
  cases st with
  |Assign ts z p =>
   cases ts with
   |nil=>exact aR h
   |cons t r =>
    cases r with
    |cons _ _=>cases t<;>exact aR h
    |nil =>
     cases t with
     |Subscript x y q =>
      have h':(!isSlice y&&!oG z&&kE S o x&&kE S i y&&kE S e z)=ak:=h;simp only[bx,iu]at h';exact aCX Q.si.hu (eZ Q.si o x h'.1.1.2) (eZ Q.si i y h'.1.2) (eZ Q.si e z h'.2) (af5 h'.1.1.1.2)
     |_=>exact aR h
  |_=>exact aR h
 |.ahZ o i e,X,S,ex,lv,Q,st,h=>by
  cases st with
  |Assign ts z p =>
   cases ts with
   |nil=>exact aR h
   |cons t r =>
    cases r with
    |cons _ _=>cases t<;>exact aR h
    |nil =>
     cases t with
     |Subscript x y q =>
      have h':(!isSlice y&&!oG z&&kE S o x&&kE S i y&&kE S e z)=ak:=h;simp only[bx,iu]at h';exact aCC Q.si.hu (eZ Q.si o x h'.1.1.2) (eZ Q.si i y h'.1.2) (eZ Q.si e z h'.2) (af5 h'.1.1.1.2)
     |_=>exact aR h
  |_=>exact aR h
 |.raise k e es,X,S,ex,lv,Q,st,h=>by
  cases st with
  |Raise a b p =>
   cases a with
   |none=>exact aR h
   |some a =>
    cases a with
    |Call f as ks q =>
     cases f with
     |Name x np =>
      cases as with
      |nil=>exact aR h
      |cons y ys =>
       cases ks with
       |cons _ _=>exact aR h
       |nil =>
        cases b with
        |some _=>exact aR h
        |none=>exact ar0 Q h
     |_=>exact aR h
    |_=>exact aR h
  |_=>exact aR h
 |.awL t b,X,S,ex,lv,Q,st,h=>by
  cases st with
  |While x y el p =>
   cases el with
   |cons _ _=>exact aR h
   |nil =>
    have h':(lv !=1&&kT S t x&&kB S lv b y)=ak:=h;simp only[bx]at h';exact av7 (Q.l0 (bne_iff_ne.mp h'.1.1)) (okT Q.si t x h'.1.2) (okB b Q y h'.2)
  |_=>exact aR h
 |.af4 ci tg b,X,S,ex,lv,Q,st,h=>by
  cases st with
  |For tgt it body el p =>
   cases el with
   |cons _ _=>exact aR h
   |nil =>
    have h':(lv !=1&&aqY S tg&&!isSet it&&kTg S tg tgt&&kI S (isTup tgt&&S.calm) ci it&&kB S lv b body)=ak:=h;simp only[bx,iu]at h';obtain⟨⟨⟨⟨⟨h1,hg⟩,h2⟩,h3⟩,h4⟩,h5⟩:=h';exact aC8 (Q.l0 (bne_iff_ne.mp h1)) (aN5 Q.si (λz=>by rw[bx]at z;exact⟨Q.si.cm z.2,af6 z.1⟩) ci it h4) (azI Q hg h3) (okB b Q body h5) (aqX h2)
  |_=>exact aR h
 |.awK ci tg b,X,S,ex,lv,Q,st,h=>by
  cases st with
  |For tgt it body el p =>
   cases el with
   |cons _ _=>exact aR h
   |nil =>
    have h':(lv !=1&&aqY S tg&&!isSet it&&kTg S tg tgt&&kI S (isTup tgt&&S.calm) ci it&&kB S lv b body)=ak:=h;simp only[bx,iu]at h';obtain⟨⟨⟨⟨⟨h1,hg⟩,h2⟩,h3⟩,h4⟩,h5⟩:=h';exact aw1 (Q.l0 (bne_iff_ne.mp h1)) (aN6 Q.si (λz=>by rw[bx]at z;exact⟨Q.si.cm z.2,af6 z.1⟩) ci it h4) (azI Q hg h3) (okB b Q body h5) (aqX h2)
  |_=>exact aR h
 |.pass,X,S,ex,lv,Q,st,h=>by
  cases st with
  |Pass _=>exact aBI
  |_=>exact aR h
theorem okB:∀(c:CB){X:Cx}{S:SI}{ex:aO->aX}{lv:Nat},a98 X S ex lv->∀(st:List qp),kB S lv c st=ak->a4R X st (mB S.gl X.K ex c)
 |.nil,X,S,ex,lv,Q,st,h=>by
  cases st with
  |nil=>exact aHN
  |cons _ _=>exact aR h
 |.cons s .nil,X,S,ex,lv,Q,st,h=>by
  match st,h with
  |[],h=>exact aR h
  |[x],h =>
   have h':(kS S lv s x&&kB S lv .nil [])=ak:=h;rw[bx]at h';exact aHO (okS s Q x h'.1)
  |x::y::ys,h =>
   have h':(kS S lv s x&&kB S lv .nil (y::ys))=ak:=h;rw[bx]at h';exact aR h'.2
 |.cons s (.cons s' r),X,S,ex,lv,Q,st,h=>by
  match st,h with
  |[],h=>exact aR h
  |x::ys,h =>
   have h':(kS S lv s x&&kB S lv (.cons s' r) ys)=ak:=h;rw[bx]at h';exact aBH (okS s Q x h'.1) (okB (.cons s' r) Q ys h'.2)
end
end L4
namespace L4
open PySem PySem.Spec PyProof.Rows L2
noncomputable def bZ(R:fZ):fZ:=λd G'=>∃G0,Le G0 G'/\R d G0
noncomputable def vQ(EX:aX):aX:=λC G'=>∃G0,Le G0 G'/\EX C G0
noncomputable def zL(n m:Nat)(tb:aX->bK):pH:=λds G R EX=>ds.length=m/\tb (vQ EX) ⟨λ_ G'=>bZ R .non G',bZ R,λ_ _=>False,λ_ _=>False⟩ (abR n ds) G
theorem bZ.here(h:R d G):bZ R d G:=⟨G,.refl G,h⟩
theorem vQ.here(h:R d G):vQ R d G:=⟨G,.refl G,h⟩
theorem ar4{K:Fg}(h:UpX K EX E):UpX K (vQ EX) E:=λC H' G' g ⟨G0,l,q⟩=>h C H' G0 (g.le l) q
variable{qt:Bool}{P:jo}{mg:Str->Option aq}{base:jj}{x qual:Str}{st:qp}{f:bw}{fd:kh}{ps:List Str}
theorem awO{w:jf}{K:Fg}{N:List Str}{k:Nat}{tb:aX->bK}(F:Fun K x qual st f fd)(S:bA N ps (aV st))
  (hbody:∀(cdv:aq)(A:jr)(outer:List Env)(s:dh)(H:Hp)(E:XK)(EX:aX),gG qt k (A.deeper (envOfC qual (aV st) s.heap.objs.size f cdv))->UpX K EX E ->
   a4R (cx1 qt P w K mg base N qual (aV st) f cdv A outer s H E) (bT st) (tb EX)):cC qt P w K mg base (jZ P w) (k+1) f fd ps (cO K (zL N.length ps.length tb)):=by
 refine(aBK F S hbody).imp ?_;rintro vs H Q E ⟨ds,G,R,EX,r,g,⟨hl,q⟩,kk,hE⟩;exact⟨ds,G,bZ R,vQ EX,r,g,⟨hl,q⟩,(by rintro v H' d G' r1 g1 ⟨G0,l,q⟩;exact kk v H' d G0 r1 (g1.le l) q),ar4 hE⟩
noncomputable def GTs(P:jo)(w:jf)(K:Fg)(mg:Str->Option aq)(base:jj)(k:Nat)(x:Str):GT->Prop
 |.con d=>∃u v,mg x=aj u/\RelV v u/\∀H,RD K H d v
 |.cls a=>mg x=aj (.ref a)/\yg K a BMv "ValueError.__new__"=ak/\(zq K a).isSome=ak/\a1V K (.ref a)=aj (.type "type")/\a2g K (.ref a) (.type "BaseException")=aj ak
 |.fn sp n qt=>∃f fd ps,cC qt P w K mg base (jZ P w) k f fd ps (cO K sp)/\mg x=aj (.ref f)/\uf K (.ref f)=ak/\Binds K fd ps []
 |.bf b=>mg x=bh/\ni x=aj (akH b)
 |.bt n=>mg x=bh/\ni x=aj (.type n)
 |.kl C sp dd=>∃j f fd ps ds xB,j+1=k/\Mk K C f/\cC ao P w K mg base (jZ P w) j f fd ps (cO K sp)/\mg x=aj (.ref C)/\Binds K fd ps ds/\Vals xB ds/\∀H,bW K H dd xB
 |.me C m sp dd=>∃f fd ps ds xB,Cls K C/\Meth K C m f/\cC ao P w K mg base (jZ P w) k f fd ps (cO K sp)/\Binds K fd ps ds/\Vals xB ds/\∀H,bW K H dd xB
 |.fl C f=>Cls K C/\lA K C f
noncomputable def aDN(sc:yp)(x:Str):Bool:=match sc.names.lookup x with
 |some .local=>ak
 |some .cell=>ak
 |_=>ao
noncomputable def aDO(sc:yp)(x:Str):Bool:=match sc.names.lookup x with
 |some .local=>ak
 |_=>ao
noncomputable def aDP(sc:yp)(x:Str):Bool:=match sc.names.lookup x with
 |some .globalImplicit=>ak
 |_=>ao
noncomputable def aDQ(sc:yp)(x:Str):Bool:=match sc.names.lookup x with
 |some .cell=>ak
 |_=>ao
set_option tactic.hygienic true in
theorem awP{sc:yp}(h:aDQ sc x=ak):sc.names.lookup x=aj .cell:=by
 unfold aDQ at h;split at h
 .rename_i e;exact e
 .exact aR h
noncomputable def aaT(S:SI)(sc:yp):Bool:=(jw S.N.length).all (λi=>match S.N[i]? with
  |none=>ao
  |some x=>x !=("__debug__":Str)&&x !=("__classdict__":Str)&&(S.fl[i]? !=aj ak||aDN sc x)&&(S.lc[i]? !=aj ak||aDO sc x)&&(S.ce[i]? !=aj ak||aDQ sc x)) &&
 (jw S.gl.length).all (λk=>match S.gl[k]? with
  |none=>ao
  |some (y,_)=>(S.gv[k]? !=aj ak||aDP sc y)&&y !=("__debug__":Str)&&y !=("__name__":Str))
set_option tactic.hygienic true in
theorem awQ(h:aDN sc x=ak):Loc sc x:=by
 unfold aDN at h;split at h
 .rename_i e;exact .inl e
 .rename_i e;exact .inr e
 .exact aR h
theorem awR(h:Loc sc x):Vis sc x:=h.elim .inl λz=>.inr (.inl z)
set_option tactic.hygienic true in
theorem awS{sc:yp}(h:aDO sc x=ak):sc.names.lookup x=aj .local:=by
 unfold aDO at h;split at h
 .rename_i e;exact e
 .exact aR h
set_option tactic.hygienic true in
theorem awT{sc:yp}(h:aDP sc x=ak):sc.names.lookup x=aj .globalImplicit:=by
 unfold aDP at h;split at h
 .rename_i e;exact e
 .exact aR h
variable{S:SI}
theorem a5T{sc:yp}(h:aaT S sc=ak){i:Nat}(e:S.N[i]?=aj x) :
  (x==("__debug__":Str))=ao/\(x==("__classdict__":Str))=ao/\(S.fl[i]?=aj ak->Loc sc x)/\(S.lc[i]?=aj ak->sc.names.lookup x=aj .local)/\(S.ce[i]?=aj ak->sc.names.lookup x=aj .cell):=by
 unfold aaT at h;rw[bx]at h;have hi:i<S.N.length:=(ji.mp e).1;have q:=jy.mp h.1 i (xg.mpr hi);rw[e]at q;simp only[bx,bne_iff_ne,ne_eq,a2p]at q;obtain⟨⟨⟨⟨q1,q2⟩,q3⟩,q4⟩,q5⟩:=q;refine⟨beq_eq_false_iff_ne.mpr q1,beq_eq_false_iff_ne.mpr q2,λz=>?_,λz=>?_,λz=>?_⟩
 .rcases q3 with q|q
  .exact absurd z q
  .exact awQ q
 .rcases q4 with q|q
  .exact absurd z q
  .exact awS q
 .rcases q5 with q|q
  .exact absurd z q
  .exact awP q
theorem awU{sc:yp}(h:aaT S sc=ak){k:Nat}{g:GT}(e:S.gl[k]?=aj (x,g)):(S.gv[k]?=aj ak->sc.names.lookup x=aj .globalImplicit)/\(x==("__debug__":Str))=ao/\x≠"__name__":=by
 unfold aaT at h;rw[bx]at h;have q:=jy.mp h.2 k (xg.mpr (ji.mp e).1);rw[e]at q;simp only[bx,bne_iff_ne,ne_eq,a2p]at q;exact⟨λz=>awT (q.1.1.resolve_left λn=>n z),beq_eq_false_iff_ne.mpr q.1.2,q.2⟩
theorem ar5{w:jf}{K:Fg}{k:Nat}{c:CB}(F:Fun K x qual st f fd)(hS:bA S.N ps (aV st))
  (hc:S.calm=!qt)(hv:aaT S (aV st)=ak)(hk:kB S 0 c (bT st)=ak)(hg:∀(j:Nat)(y:Str)(g:GT),S.gl[j]?=aj (y,g)->GTs P w K mg base k y g) :
  cC qt P w K mg base (jZ P w) (k+1) f fd ps (cO K (zL S.N.length ps.length λEX=>mB S.gl K (λ_=>EX) c)):=by
 refine awO F hS λcdv A outer s H E EX hr hE=>?_;refine okB c (X:=cx1 qt P w K mg base S.N qual (aV st) f cdv A outer s H E) (S:=S) (ex:=λ_=>EX) (lv:=0) ?_ (bT st) hk;refine⟨⟨rfl,hS.nd,λi y e1 e2=>?_,λi y e1 e2=>.inl ((a5T hv e1).2.2.2.2 e2),λj y g e=>?_,hr.units,λz=>hc.symm.trans z,aMD hE⟩,λi y e1 e2=>?_,λi y e1 e2=>?_,λ_=>rfl,λj y a e _=>?_,λ_=>own1,λ_ _=>aME hE,rfl,rfl⟩
 .obtain⟨a1,a2,a3,a4⟩:=a5T hv e1;exact⟨awR (a3 e2),a1,a2⟩
 .obtain⟨a1,a2,a3⟩:=awU hv e;have z:=hg j y g e;refine⟨a1,a2,a3,?_⟩;cases g with
  |con d=>exact z
  |cls a=>exact⟨z.1,z.2.1⟩
  |fn sp n q2 =>
   intro hz;obtain⟨f',fd',ps',F',m',k',b'⟩:=z;refine⟨k,f',fd',ps',F',⟨λe=>hr.hd ?_,hr.dp,hr.un⟩,m',k',b'⟩;have hs:S.calm=ak:=hz.resolve_left (by rw[e];decide);rw[hc]at hs;simpa using hs
  |bf b=>exact z
  |bt n=>exact z
  |kl C sp dd =>
   intro hs;obtain⟨j',f',fd',ps',ds,xB,rfl,q1,q2,q3,q4,q5,q6⟩:=z;rw[hc]at hs;exact⟨j',f',fd',ps',ds,xB,q1,q2,⟨λ_=>hr.hd (by simpa using hs),hr.dp,hr.un⟩,q3,q4,q5,q6⟩
  |me C m sp dd =>
   intro hs;obtain⟨f',fd',ps',ds,xB,q1,q2,q3,q4,q5,q6⟩:=z;rw[hc]at hs;exact⟨k,f',fd',ps',ds,xB,q1,q2,q3,⟨λ_=>hr.hd (by simpa using hs),hr.dp,hr.un⟩,q4,q5,q6⟩
  |fl C f=>exact z
 .exact(a5T hv e1).2.2.1 e2
 .exact(a5T hv e1).2.2.2.1 e2
 .have z:=hg j y _ e;exact z.2
end L4
namespace L4
open PySem PySem.Spec PyProof.Rows L2
theorem gln{P:Str->GT->Prop}:∀(j:Nat)(y:Str)(g:GT),([]:List (Str×GT))[j]?=aj (y,g)->P y g:=λj y g h=>by simp at h
theorem cU{P:Str->GT->Prop}{x:Str}{g:GT}{l:List (Str×GT)}(h:P x g)(r:∀(j:Nat)(y:Str)(g:GT),l[j]?=aj (y,g)->P y g):∀(j:Nat)(y:Str)(g':GT),((x,g)::l)[j]?=aj (y,g')->P y g'
 |0,y,g',e=>by simp at e;obtain⟨e1,e2⟩:=e;subst e1;subst e2;exact h
 |j+1,y,g',e=>r j y g' (by simpa using e)
section
variable{w:jf}{K:Fg}{mg:Str->Option aq}{base:jj}{k:Nat}{x:Str}
theorem gcI{z:Int}(h:∃t,mg x=aj (.int z t)):GTs P w K mg base k x (.con (.int z)):=by
 obtain⟨t,h⟩:=h;exact⟨_,.int z,h,⟨t,rfl⟩,λ_=>.int z⟩
end
theorem ar6:ni "range"=aj (.type "range"):=by decide+kernel
end L4
namespace L4
open PySem PySem.Spec PyProof.Rows L2
variable{ps:List Str}
theorem akO{K:Fg}(h:∀us:List aq,us.length=ps.length->tu fd ⟨us,[]⟩=pure (ps.zip us)):Binds K fd ps []:=Binds.all h
variable{fd:kh}{n:Nat}
theorem awV{K:Fg}(e:K.lookup T=aj ⟨oc,od,.seq #[u] n,sl⟩)
  (h:∀us:List aq,us.length=ps.length->∃k:Option (Array aq)->Sem (List (Str×aq)),fd.defaults=.ref T/\tu fd ⟨us,[]⟩=seqItems? fd.defaults >>= k/\k (aj #[u])=pure (ps.zip us)):Binds K fd ps []:=λs us hK hl=>by
 rw[a0g]at hl ⊢;obtain⟨k,h0,h1,h2⟩:=h us hl;exact PySem.W.binds_K hK h0 e rfl h1 h2
theorem awW{K:Fg}(e:K.lookup T=aj ⟨oc,od,.seq #[u] n,sl⟩)
  (h:∀us:List aq,us.length+1=ps.length->∃k:Option (Array aq)->Sem (List (Str×aq)),fd.defaults=.ref T/\tu fd ⟨us,[]⟩=seqItems? fd.defaults >>= k/\k (aj #[u])=pure (ps.zip (us++[u]))):Binds K fd ps [u]:=λs us hK hl=>by
 obtain⟨k,h0,h1,h2⟩:=h us (by simpa using hl);exact PySem.W.binds_K hK h0 e rfl h1 h2
end L4
namespace L5
open PySem PySem.Spec PyProof.Rows L2 L4
def onB(x:D)(f:Bool->Prop):Prop:=match x with
 |.bl k=>f k
 |_=>False
def onI(x:D)(f:Int->Prop):Prop:=match x with
 |.int k=>f k
 |_=>False
theorem aDR{k:Bool}:onB (.bl k) f=f k:=rfl
theorem awX{k:Int}:onI (.int k) f=f k:=rfl
def a7C(xs:List D):Prop:=xs.length<=cu
theorem aDS:a7C []=True:=eq_true (show 0<=cu by decide)
variable{a0:D}
theorem aDT:a7C [a0]=True:=eq_true (show 1<=cu by decide)
variable{a1:D}
theorem aDU:a7C [a0,a1]=True:=eq_true (show 2<=cu by decide)
theorem aDV:a7C [a0,a1,a2]=True:=eq_true (show 3<=cu by decide)
variable{i j:Int}{o:Option D}{n:Nat}{T:String}{p:bw}{ds:List D}{b:Bool}
section
variable{t:bK}{F:cP}{G:Gp}{R:fZ}{tt:yN}{K:Fg}
theorem aJ4:aW t u F ρ G=t {F with nx:=u F} ρ G:=rfl
theorem aDW:dI F ρ G=F.nx ρ G:=rfl
theorem aDX:bR te F ρ G=te ρ G λ_ G1=>F.nx ρ G1:=rfl
theorem aJ5:dY te F ρ G=te ρ G F.rt:=rfl
theorem aJ6:jL tt t u F ρ G=tt ρ G λb G1=>if b=ak then t F ρ G1 else u F ρ G1:=rfl
theorem aJ7{i:Nat}:f9 i te F ρ G=te ρ G λx G1=>F.nx (a6E ρ i x) G1:=rfl
theorem x_raise:m6 EX C tA F ρ G=tA ρ G λds G1=>a7C ds/\EX ρ C G1:=rfl
theorem x_c:bN d ρ G R=R d G:=rfl
theorem aDY:aB 0 (aj d::ρ) G R=R d G:=rfl
theorem aDZ:aB (n+1) (o::ρ) G R=aB n ρ G R:=rfl
theorem ar7:a6E (o::ρ) 0 d=aj d::ρ:=rfl
theorem ar8:a6E (o::ρ) (n+1) d=o::a6E ρ n d:=rfl
theorem ar9:tG (o::ρ) 0=bh::ρ:=rfl
theorem arA:tG (o::ρ) (n+1)=o::tG ρ n:=rfl
theorem aN8{r:R3}:aL r ta tb ρ G R=ta ρ G λx G1=>tb ρ G1 λy G2=>r x y G2 R:=rfl
theorem aE0:bH te ρ G Q=te ρ G λx G1=>onB x λk=>Q k G1:=rfl
theorem awY{r r':R3}:pK r r' ta tb tc ρ G R=ta ρ G λx G1=>tb ρ G1 λy G2=>r x y G2 λz G3=>onB z λk=>if k=ak then tc ρ G3 λw G4=>r' y w G4 R else R (.bl ao) G3:=by
 unfold pK;congr 1;funext x G1;congr 1;funext y G2;congr 1;funext z G3;cases z with
 |bl k=>cases k<;>rfl
 |_=>rfl
theorem aN9:ahI tt tt' ρ G Q=tt ρ G λc G1=>if c=ak then Q ak G1 else tt' ρ G1 Q:=rfl
theorem aJ8:v9 tt ρ G Q=tt ρ G λc G1=>Q (!c) G1:=rfl
theorem aE1:vA ta tb ρ G R=ta ρ G λx G1=>onB x λk=>if k=ak then tb ρ G1 R else R (.bl ao) G1:=by
 unfold vA;congr 1;funext x G1;cases x with
 |bl k=>cases k<;>rfl
 |_=>rfl
theorem aE2:abU ta ρ G R=ta ρ G λx G1=>onB x λk=>R (.bl (!k)) G1:=rfl
theorem aJ9:ajN ta ρ G R=ta ρ G λx G1=>onI x λk=>R (.int (-k)) G1:=rfl
theorem aJA:aG ρ G Q=Q [] G:=rfl
theorem aE3:aA te tA ρ G Q=te ρ G λx G1=>tA ρ G1 λxs G2=>Q (x::xs) G2:=rfl
theorem aJB:gJ tA ρ G R=tA ρ G λxs G1=>a7C xs/\R (.tup xs) G1:=rfl
theorem aJC:pL tA ρ G R=tA ρ G λxs G1=>a7C xs/\∀p,G1 p=bh->R (.ref p) (aH G1 p (.lst xs)):=rfl
theorem aJD:vI ρ G R=∀p,G p=bh->R (.ref p) (aH G p (.bC ao [])):=rfl
theorem x_call{ex:aO->aX}:bB sp ex tA ρ G R=tA ρ G λds G1=>sp ds G1 R (ex ρ):=rfl
theorem aNA:kJ r tA ρ G R=tA ρ G λxs G1=>r xs G1 R:=rfl
theorem x_m{r:RM3}:tM3 T r te tA ρ G R=te ρ G λx G1=>abZ T G1 x/\tA ρ G1 λxs G2=>r x xs G2 R:=rfl
theorem awZ:abZ "list" G (.ref p)=((aY G p).isSome=ak):=by unfold abZ;simp
theorem arB:gK (.int i) (.int j) G R=R (.int (i+j)) G:=rfl
theorem aJE:a6G (.int i) (.int j) G R=R (.int (i - j)) G:=rfl
theorem azK:a0D (.int i) (.int j) G R=(ao0 i j/\R (.int (i*j)) G):=rfl
theorem aE4:tE (.int i) (.int j) G R=(aAI i j/\R (.int (i / j)) G):=rfl
theorem aJF:jA (.int i) (.int j) G R=(0<j/\R (.int (i%j)) G):=rfl
theorem x_lt:aoK (.int i) (.int j) G R=R (.bl (decide (i<j))) G:=rfl
theorem aNB:auP (.int i) (.int j) G R=R (.bl (decide (j<i))) G:=rfl
theorem aNC:aoL (.int i) (.int j) G R=R (.bl (decide (i<=j))) G:=rfl
theorem ax0:xR (.int i) (.int j) G R=R (.bl (i==j)) G:=by
 show(aQ 20 (.int i)=ak/\aQ 20 (.int j)=ak/\_)=_;simp[aQ,eqP]
theorem ax1:aoR (.int i) (.int j) G R=R (.bl (!(i==j))) G:=by
 show(aQ 20 (.int i)=ak/\aQ 20 (.int j)=ak/\_)=_;simp[aQ,eqP]
theorem ax2{z:Str}:yP [.str z] G R=(z.length<=cu/\R (.int z.length) G):=rfl
theorem ax3:yP [.tup ds] G R=R (.int ds.length) G:=rfl
theorem akP(h:aY G q=aj ds):yP [.ref q] G R=R (.int ds.length) G:=by unfold yP;simp only[h]
theorem ax4:ae6 [.bl b] G R=R (.int (if b then 1 else 0)) G:=rfl
theorem ai1(h:atI xs i=aj d):d7 (.tup xs) (.int i) G R=R d G:=by unfold d7;simp only[h]
theorem acN(e:aY G p=aj xs)(h:atI xs i=aj d):d7 (.ref p) (.int i) G R=R d G:=by unfold d7;simp only[e,h]
theorem af7:aM K [.non,.ty "int"] G R=R (.bl ao) G:=by
 show("int"∈gA/\R (.bl (L2.subB "NoneType" "int")) G)=_;rw[show L2.subB "NoneType" "int"=ao from by decide];simp[gA]
theorem acO:aM K [.non,.ty "bool"] G R=R (.bl ao) G:=by
 show("bool"∈gA/\R (.bl (L2.subB "NoneType" "bool")) G)=_;rw[show L2.subB "NoneType" "bool"=ao from by decide];simp[gA]
theorem a99:aM K [.non,.ty "tuple"] G R=R (.bl ao) G:=by
 show("tuple"∈gA/\R (.bl (L2.subB "NoneType" "tuple")) G)=_;rw[show L2.subB "NoneType" "tuple"=ao from by decide];simp[gA]
theorem ai2:aM K [(.bl b),.ty "int"] G R=R (.bl ak) G:=by
 show("int"∈gA/\R (.bl (L2.subB "bool" "int")) G)=_;rw[show L2.subB "bool" "int"=ak from by decide];simp[gA]
theorem af8:aM K [(.bl b),.ty "bool"] G R=R (.bl ak) G:=by
 show("bool"∈gA/\R (.bl (L2.subB "bool" "bool")) G)=_;rw[show L2.subB "bool" "bool"=ak from by decide];simp[gA]
theorem acP:aM K [(.bl b),.ty "tuple"] G R=R (.bl ao) G:=by
 show("tuple"∈gA/\R (.bl (L2.subB "bool" "tuple")) G)=_;rw[show L2.subB "bool" "tuple"=ao from by decide];simp[gA]
theorem af9:aM K [(.int i),.ty "int"] G R=R (.bl ak) G:=by
 show("int"∈gA/\R (.bl (L2.subB "int" "int")) G)=_;rw[show L2.subB "int" "int"=ak from by decide];simp[gA]
theorem acQ:aM K [(.int i),.ty "bool"] G R=R (.bl ao) G:=by
 show("bool"∈gA/\R (.bl (L2.subB "int" "bool")) G)=_;rw[show L2.subB "int" "bool"=ao from by decide];simp[gA]
theorem a9A:aM K [(.int i),.ty "tuple"] G R=R (.bl ao) G:=by
 show("tuple"∈gA/\R (.bl (L2.subB "int" "tuple")) G)=_;rw[show L2.subB "int" "tuple"=ao from by decide];simp[gA]
theorem afA:aM K [(.str z),.ty "int"] G R=R (.bl ao) G:=by
 show("int"∈gA/\R (.bl (L2.subB "str" "int")) G)=_;rw[show L2.subB "str" "int"=ao from by decide];simp[gA]
theorem acR:aM K [(.str z),.ty "bool"] G R=R (.bl ao) G:=by
 show("bool"∈gA/\R (.bl (L2.subB "str" "bool")) G)=_;rw[show L2.subB "str" "bool"=ao from by decide];simp[gA]
theorem a9B:aM K [(.str z),.ty "tuple"] G R=R (.bl ao) G:=by
 show("tuple"∈gA/\R (.bl (L2.subB "str" "tuple")) G)=_;rw[show L2.subB "str" "tuple"=ao from by decide];simp[gA]
theorem afB:aM K [(.tup xs),.ty "int"] G R=R (.bl ao) G:=by
 show("int"∈gA/\R (.bl (L2.subB "tuple" "int")) G)=_;rw[show L2.subB "tuple" "int"=ao from by decide];simp[gA]
theorem acS:aM K [(.tup xs),.ty "bool"] G R=R (.bl ao) G:=by
 show("bool"∈gA/\R (.bl (L2.subB "tuple" "bool")) G)=_;rw[show L2.subB "tuple" "bool"=ao from by decide];simp[gA]
theorem a9C:aM K [(.tup xs),.ty "tuple"] G R=R (.bl ak) G:=by
 show("tuple"∈gA/\R (.bl (L2.subB "tuple" "tuple")) G)=_;rw[show L2.subB "tuple" "tuple"=ak from by decide];simp[gA]
theorem abX{q C C':bw}(h:G q=aj (.exn C))(e:ExC K C)(k:a06 K (.ref C) (.ref C')=aj b)(z:R (.bl b) G):aM K [.ref q,.ref C'] G R:=by
 unfold aM;simp only[exD,h];exact⟨b,e,k,z⟩
end
theorem arC(h:G p=aj (.lst xs)):aY G p=aj xs:=by unfold aY;rw[h]
theorem vR(h:G p=aj (.rol xs)):aY G p=aj xs:=by unfold aY;rw[h]
theorem dM:aY (aH G p (.lst xs)) p=aj xs:=arC aD
theorem ax5(h:R d G)(l:Le G G'):bZ R d G':=⟨G,l,h⟩
theorem acT{P Q:Prop}(h1:b=ak->P)(h2:b=ao->Q):if b=ak then P else Q:=by
 cases b
 .exact h2 rfl
 .exact h1 rfl
def kn(G:Gp)(d:D):Prop:=(tyD G d).isSome=ak
theorem arD(h:kn G (.ref q)):tyD G (.ref q)=aj "list" ∨ tyD G (.ref q)=aj "dict":=by
 unfold kn at h
 have e:tyD G (.ref q)=(match G q with
  |some (.lst _)=>aj "list"
  |some (.rol _)=>aj "list"
  |some (.bC _ _)=>aj "dict"
  |_=>bh):=rfl
 rw[e]at h ⊢;split at h
 .exact .inl rfl
 .exact .inl rfl
 .exact .inr rfl
 .simp at h
theorem arE{b:List D}:kn G (.tup b):=rfl
variable{a:D}
section
variable{K:Fg}
theorem arF{x:D}{n:String}(e:tyD G x=aj T)(hn:n∈gA):aM K [x,.ty n] G R=R (.bl (L2.subB T n)) G:=by
 show(match tyD G x with
  |some T=>n∈gA/\R (.bl (L2.subB T n)) G
  |none=>_)=_
 rw[e];exact propext ⟨λh=>h.2,λh=>⟨hn,h⟩⟩
theorem ai3(h:kn G (.ref q)):aM K [.ref q,.ty "int"] G R=R (.bl ao) G:=by
 rcases arD h with e|e<;>rw[arF e (by decide)]<;>rfl
theorem a0S(h:kn G (.ref q)):aM K [.ref q,.ty "tuple"] G R=R (.bl ao) G:=by
 rcases arD h with e|e<;>rw[arF e (by decide)]<;>rfl
theorem at0{α:Type}{a:α}{xs:List α}:atI (a::xs) 0=aj a:=by
 unfold atI ixN;simp
theorem atS{α:Type}{a:α}{xs:List α}:atI (a::xs) ((n+1:Nat):Int)=atI xs (n:Int):=by
 unfold atI ixN;have h0:(0:Int)<=((n+1:Nat):Int):=by omega
 have h1:(0:Int)<=(n:Int):=by omega
 rw[if_pos h0,if_pos h1];by_cases h:n<xs.length
 .have a1:((n+1:Nat):Int)<((a::xs).length:Int):=by simp;omega
  have a2:(n:Int)<(xs.length:Int):=by omega
  rw[if_pos a1,if_pos a2];simp
 .have a1:¬ ((n+1:Nat):Int)<((a::xs).length:Int):=by simp;omega
  have a2:¬ (n:Int)<(xs.length:Int):=by omega
  rw[if_neg a1,if_neg a2];rfl
theorem a7D{α:Type}{xs:List α}:atI xs (n:Int)=xs[n]?:=by
 unfold atI ixN;rw[if_pos (by omega)];by_cases h:n<xs.length
 .rw[if_pos (by omega)];simp
 .rw[if_neg (by omega)];simp at h;simp[h]
theorem ax6:d7 (.tup (a::xs)) (.int 0) G R=R a G:=ai1 at0
variable{b:D}
theorem ax7:d7 (.tup (a::b::xs)) (.int 1) G R=R b G:=ai1 (i:=((1:Nat):Int)) (by rw[atS,a7D];rfl)
theorem ax8:d7 (.tup (a::b::c::xs)) (.int 2) G R=R c G:=ai1 (i:=((2:Nat):Int)) (by rw[atS,a7D];rfl)
end
section
end
variable{xs:List D}
section
theorem a7E{a b:bw}{ys:List D}(h1:aY G a=aj xs)(h2:aY G b=aj ys)(s1:xs.all (aQ 20)=ak)(s2:ys.all (aQ 20)=ak):xR (.ref a) (.ref b) G R=R (.bl (o8 xs ys)) G:=by
 show eqG G (.ref a) (.ref b) (λb=>R (.bl b) G)=_;unfold eqG;simp only[h1,h2,s1,s2,true_and]
end
section
variable{i j:Int}
theorem aE5(h:-18446744073709551616<i/\i<18446744073709551616):a0D (.int i) (.int j) G R=R (.int (i*j)) G:=by
 rw[azK];exact propext ⟨λz=>z.2,λz=>⟨.inl ⟨by have:=h.1;omega,by have:=h.2;omega⟩,z⟩⟩
theorem aE6(h:-18446744073709551616<j/\j<18446744073709551616):a0D (.int i) (.int j) G R=R (.int (i*j)) G:=by
 rw[azK];exact propext ⟨λz=>z.2,λz=>⟨.inr ⟨by have:=h.1;omega,by have:=h.2;omega⟩,z⟩⟩
theorem ax9(h:0<j/\j<1073741824):tE (.int i) (.int j) G R=R (.int (i / j)) G:=by
 rw[aE4];exact propext ⟨λz=>z.2,λz=>⟨h,z⟩⟩
theorem aE7(h:0<j):jA (.int i) (.int j) G R=R (.int (i%j)) G:=by
 rw[aJF];exact propext ⟨λz=>z.2,λz=>⟨h,z⟩⟩
end
section
variable{i:Int}
theorem arG{α:Type}{xs:List α}(h0:0<=i)(h1:i<(xs.length:Int)):∃d,atI xs i=aj d/\d∈xs:=by
 obtain⟨n,rfl⟩:=Int.eq_ofNat_of_zero_le h0;have hn:n<xs.length:=by omega
 exact⟨xs[n],by rw[a7D];simp[hn],wz hn⟩
theorem ai4(e:aY G p=aj xs)(h0:0<=i)(h1:i<(xs.length:Int))(h:∀d∈xs,R d G):d7 (.ref p) (.int i) G R:=by
 obtain⟨d,h2,h3⟩:=arG h0 h1;rw[acN e h2];exact h d h3
variable{P:D->Prop}
theorem all_nil:∀d∈([]:List D),P d:=λ_ h=>by simp at h
theorem all_cons{r:List D}(h1:P a)(h2:∀d∈r,P d):∀d∈a::r,P d:=λd h=>by
 rcases je.mp h with rfl|h
 .exact h1
 .exact h2 d h
end
section
variable{b:Bool}{α:Type}{a:α}{l:List α}
theorem ai5:(True/\P)=P:=true_and P
theorem arH:((!b)=ak)=(b=ao):=by cases b<;>simp
theorem amY:(if True then P else Q)=P:=if_true ..
theorem ai6:(if False then P else Q)=Q:=if_false ..
theorem aJG:(ao=ak)=False:=by simp
theorem aJH:(ak=ao)=False:=by simp
theorem ai7:(a::l).length=l.length+1:=lg
theorem amZ:([]:List α).length=0:=rfl
theorem an0{β:Type}{f:α->β}:(l.map f).length=l.length:=dj ..
end
end L5
namespace L6
open PySem PySem.Spec PyProof.Rows L2 L4 L5
def aE8(x:D)(G:Gp)(Q:Src->Gp->Prop):Prop:=match x with
 |.ref p=>(match aY G p with
  |some xs=>Q (.lst p xs) G
  |none=>False)
 |.tup xs=>Q (.imm xs) G
 |.str z=>Q (.imm (signs z)) G
 |_=>False
def arI(x:D)(G:Gp)(Q:Src->Gp->Prop):Prop:=match x with
 |.ref p=>(match aY G p with
  |some xs=>Q (.lst p xs) G
  |none=>False)
 |.str z=>Q (.imm (signs z)) G
 |.tup xs=>xs.all scD=ak/\∀a,(G a=bh∨G a=aj (.tpl xs))->Q (.tpl a xs) (aH G a (.tpl xs))
 |_=>False
def azL(xs:List D)(G:Gp)(Q:Src->Gp->Prop):Prop:=match xs with
 |[.int j]=>-(2^62)<=j/\j<2^62/\Q (.imm (a96 0 j)) G
 |_=>False
section
variable{p:bw}{j:Int}
theorem axA:a2C te ρ G Q=te ρ G λx G1=>aE8 x G1 Q:=rfl
theorem aJI:ahL te ρ G Q=te ρ G λx G1=>arI x G1 Q:=rfl
theorem aE9:a2D ta ρ G Q=ta ρ G λxs G1=>azL xs G1 Q:=rfl
theorem a7F(h:aY G p=aj xs):aE8 (.ref p) G Q=Q (.lst p xs) G:=by unfold aE8;simp only[h]
theorem xH(h:aY G p=aj xs):arI (.ref p) G Q=Q (.lst p xs) G:=by unfold arI;simp only[h]
theorem axB(h:-4611686018427387904<=j/\j<4611686018427387904):azL [.int j] G Q=Q (.imm (a96 0 j)) G:=by
 show(_/\_/\_)=_;exact propext ⟨λz=>z.2.2,λz=>⟨by omega,by omega,z⟩⟩
end
def akQ(dv:D->Option (List D))(src:Src)(tc:yN)(te:bV)(ρ:aO)(G1:Gp)(R:fZ):Prop:=src.items.length<cu/\∀p,G1 p=bh->∃P:Nat->List D->Gp->Prop,P 0 [] (aH G1 p (.lst [])) /\
 (∀k ds G,k<=src.items.length->P k ds G->src.ok G/\G p=aj (.lst ds)/\ds.length<=k) /\
 (∀k d ds G,src.items[k]?=aj d->P k ds G->∃ys,dv d=aj ys/\tc (ys.map aj++ρ) G λb G2=>if b=ak then te (ys.map aj++ρ) G2 λy G3=>G3 p=aj (.lst ds)/\P (k+1) (ds++[y]) (aH G3 p (.lst (ds++[y])))else P (k+1) ds G2) /\
 ∀ds G,P src.items.length ds G->∃G0,Le G0 G/\R (.ref p) G0
variable{ti:TI3}
theorem arJ{dv:D->Option (List D)}:a0G dv ti tc te ρ G R=ti ρ G λsrc G1=>akQ dv src tc te ρ G1 R:=rfl
variable{p:bw}
set_option tactic.hygienic true in
theorem a0T(l:Le G G')(h:aY G p=aj xs):aY G' p=aj xs:=by
 unfold aY at h ⊢;split at h
 .rename_i e;rw[l _ _ e];exact h
 .rename_i e;rw[l _ _ e];exact h
 .cases h
variable{src:Src}
theorem azM(l:Le G G')(h:src.ok G):src.ok G':=by
 cases src with
 |lst p xs=>exact a0T l h
 |imm xs=>trivial
 |zip p q xs ys=>exact⟨a0T l h.1,a0T l h.2⟩
 |itm p o kvs=>exact l _ _ h
 |key p o t kvs=>exact l _ _ h
 |tpl p xs=>exact l _ _ h
 |enu p xs=>exact l _ _ h
 |nky p o kvs=>exact l _ _ h
theorem arK{o:GO}(l:Le (aH G p o) G'):Le (aH G p o') (aH G' p o'):=λa u e=>by
 by_cases h:a=p
 .subst h;rw[aD]at e ⊢;exact e
 .rw[aN h]at e ⊢;exact l a u (by rw[aN h];exact e)
theorem arL{dv:D->Option (List D)}(v:D->List D)(c:D->Bool)(f:D->D)(hl:src.items.length<cu)(hok:src.ok G)(hv:∀d∈src.items,dv d=aj (v d))
  (hc:∀d∈src.items,∀G',Le G G'->∀Q:Bool->Gp->Prop,(∀G'',Le G' G''->Q (c d) G'')->tc ((v d).map aj++ρ) G' Q)
  (he:∀d∈src.items,c d=ak->∀G',Le G G'->∀Q:D->Gp->Prop,(∀G'',Le G' G''->Q (f d) G'')->te ((v d).map aj++ρ) G' Q)
  (h:∀p,G p=bh->R (.ref p) (aH G p (.lst ((src.items.filter c).map f)))):akQ dv src tc te ρ G R:=by
 refine⟨hl,λp hp=>⟨λk ds G'=>ds=((src.items.take k).filter c).map f/\Le (aH G p (.lst ds)) G',⟨rfl,.refl _⟩,λk ds G' hk ⟨e,l⟩=>?_,λk d ds G' hd ⟨e,l⟩=>?_,λds G' ⟨e,l⟩=>?_⟩⟩
 .refine⟨azM ((Le.new hp).trans l) hok,l p _ aD,?_⟩;rw[e,dj];exact qj (yx _ _) (by rw[a1q];omega)
 .have hm:d∈src.items:=jx hd
  have ht:src.items.take (k+1)=src.items.take k++[d]:=by
   rw[a1o,hd];rfl
  refine⟨v d,hv d hm,hc d hm G' ((Le.new hp).trans l) _ λG2 l2=>?_⟩;cases hcd:c d with
  |true =>
   rw[if_pos rfl];refine he d hm hcd G2 (((Le.new hp).trans l).trans l2) _ λG3 l3=>?_;have l4:=(l.trans l2).trans l3;refine⟨l4 p _ aD,?_,arK l4⟩;rw[ht,List.filter_append,mz,←e];simp[hcd]
  |false =>
   rw[if_neg (by decide)];refine⟨?_,l.trans l2⟩;rw[ht,List.filter_append,mz,←e];simp[hcd]
 .rw[a0a]at e;subst e;exact⟨_,l,h p hp⟩
theorem akR(c:D->Bool)(f:D->D)(hl:src.items.length<cu)(hok:src.ok G)
  (hc:∀d∈src.items,∀G',Le G G'->∀Q:Bool->Gp->Prop,(∀G'',Le G' G''->Q (c d) G'')->tc (aj d::ρ) G' Q)
  (he:∀d∈src.items,c d=ak->∀G',Le G G'->∀Q:D->Gp->Prop,(∀G'',Le G' G''->Q (f d) G'')->te (aj d::ρ) G' Q)
  (h:∀p,G p=bh->R (.ref p) (aH G p (.lst ((src.items.filter c).map f)))):akQ ac2 src tc te ρ G R:=arL (λd=>[d]) c f hl hok (λ_ _=>rfl) hc he h
def akS(src:Src)(tg:TG3)(tb:bK)(F:cP)(ρ:aO)(G1:Gp):Prop:=∃P:Nat->aO->Gp->Prop,P 0 ρ G1/\(∀k ρ G,k<=src.items.length->P k ρ G->src.ok G) /\
 (∀k d ρ G,src.items[k]?=aj d->P k ρ G->tg d ρ λρ2=>tb {F with nx:=P (k+1),ct:=P (k+1),bk:=F.nx} ρ2 G)/\∀ρ G,P src.items.length ρ G->F.nx ρ G
variable{tg:TG3}{F:cP}
theorem aEA:vJ ti tg tb F ρ G=ti ρ G λsrc G1=>akS src tg tb F ρ G1:=rfl
variable{i:Nat}
theorem axC:qN i d ρ Q=Q (a6E ρ i d):=rfl
theorem akT{is:List Nat}:aa7 ρ (i::is) (d::ds)=aa7 (a6E ρ i d) is ds:=rfl
theorem arM{j:Int}(P:Nat->aO->Gp->Prop)(h0:P 0 ρ G)
  (hb:∀(k:Nat) ρ G,(k:Int)<j->P k ρ G->tg (.int k) ρ λρ2=>tb {F with nx:=P (k+1),ct:=P (k+1),bk:=F.nx} ρ2 G)(he:∀ρ G,P j.toNat ρ G->F.nx ρ G):akS (.imm (a96 0 j)) tg tb F ρ G:=by
 have hlen:(Src.imm (a96 0 j)).items.length=j.toNat:=by simp[Src.items,a96]
 refine⟨P,h0,λ_ _ _ _ _=>trivial,λk d ρ G hd p=>?_,λρ G p=>he ρ G (hlen ▸ p)⟩;have hk:k<j.toNat:=by rw[←hlen];exact(ji.mp hd).1
 have e:d=.int k:=by
  have:(a96 0 j)[k]?=aj d:=hd;unfold a96 at this;rw[vp,List.getElem?_range (by omega)]at this;simp at this;exact this.symm
 subst e;exact hb k ρ G (by omega) p
theorem a0U{xs:List D}(P:Nat->aO->Gp->Prop)(h0:P 0 ρ G)(hs:∀k ρ G,P k ρ G->aY G q=aj xs)
  (hb:∀k d ρ G,xs[k]?=aj d->P k ρ G->tg d ρ λρ2=>tb {F with nx:=P (k+1),ct:=P (k+1),bk:=F.nx} ρ2 G)(he:∀ρ G,P xs.length ρ G->F.nx ρ G):akS (.lst q xs) tg tb F ρ G :=
 ⟨P,h0,λk ρ G _ p=>hs k ρ G p,hb,he⟩
section
theorem vU{ds:List D}(h:G p=aj (.lst ds))(hl:ds.length<cu):jM (.ref p) [d] G R=R .non (aH G p (.lst (ds++[d]))):=by
 unfold jM;simp only[h,hl,true_and]
theorem akU{b:bw}{ds es:List D}(h:G p=aj (.lst ds))(h2:G b=aj (.lst es))(hl:ds.length+es.length<=cu):gK (.ref p) (.ref b) G R=∀q,G q=bh->R (.ref q) (aH G q (.lst (ds++es))):=by
 unfold gK;simp only[h,h2,hl,true_and]
theorem arN(h:aY G q=aj ds):a6J [.ref q] G R=∀l,G l=bh->R (.ref l) (aH G l (.lst ds)):=by
 unfold a6J;simp only[h]
end
section
theorem axD(h1:aY G p=aj xs)(h2:aY G q=aj ys):a6P (.ref p) (.ref q) G R=(av8 G xs ys=ak/\R (.bl (!av9 G xs ys)) G):=by
 unfold a6P apC;simp only[h1,h2]
end
end L6
namespace L7
open PySem PySem.Spec PyProof.Rows L2 L4 L5 L6
section
variable{F:cP}{p:bw}
theorem aJJ{i:Nat}{t:bK}:ak1 i t F ρ G=t {nx:=λρ G=>F.nx (tG ρ i) G,rt:=F.rt,bk:=λρ G=>F.bk (tG ρ i) G,ct:=λρ G=>F.ct (tG ρ i) G} (tG ρ i) G:=rfl
theorem aEB:xC ρ G R=∀p,G p=bh->R (.ref p) (aH G p (.bC ak [])):=rfl
theorem aEC:zJ to ti tv F ρ G=tv ρ G λv G1=>to ρ G1 λx G2=>ti ρ G2 λy G3=>ajX x y v F ρ G3:=rfl
noncomputable abbrev prK(q:Int×Int):DK:=.inr [.inl q.1,.inl q.2]
noncomputable def ent(q:Int×Int):DK×D:=(prK q,.bl ak)
noncomputable def setG(M:List (Int×Int)):GO:=.bC ak (M.map ent)
noncomputable def xV(M:List (Int×Int))(q:Int×Int):List (Int×Int):=if q∈M then M else M++[q]
theorem axF(h:prK q=prK r):q=r:=by
 have h:(Sum.inr [.inl q.1,.inl q.2]:DK)=.inr [.inl r.1,.inl r.2]:=h;simp only[Sum.inr.injEq,List.cons.injEq,Sum.inl.injEq,and_true]at h;exact Prod.ext h.1 h.2
theorem akV:∀{M:List (Int×Int)},(aJ (M.map ent) (prK q)).isSome=decide (q∈M)
 |[]=>rfl
 |r::M=>by
  rw[iy];unfold aJ;by_cases c:r=q
  .subst c;rw[if_pos (show(ent r).1=prK r from rfl)];simp
  .rw[if_neg (show ¬ (ent r).1=prK q from λz=>c (axF z)),akV];have:q≠r:=λz=>c z.symm;simp[this]
theorem axG{M:List (Int×Int)}:bQ (M.map ent) (prK q) (.bl ak)=(xV M q).map ent:=by
 unfold bQ xV;rw[akV];by_cases c:q∈M
 .rw[if_pos c,if_pos (by simpa using c),jt];apply um;intro r _;show(if(ent r).1=prK q then((ent r).1,D.bl ak)else ent r)=ent r;split<;>rfl
 .rw[if_neg c,if_neg (by simpa using c),mz];rfl
theorem aaU:∀{M:List (Int×Int)},vN (M.map λq=>.tup [.tup [.int q.1,.int q.2],.bl ak])=aj (M.map λq=>([.inl q.1,.inl q.2],.bl ak))
 |[]=>rfl
 |q::M=>by
  rw[iy];unfold L2.vN;rw[aaU];rfl
theorem afC:∀{M N:List (Int×Int)},a6Y (N.map ent) (M.map λq=>([.inl q.1,.inl q.2],.bl ak))=(M.foldl xV N).map ent
 |[],N=>rfl
 |q::M,N=>by
  rw[iy,a1x];show a6Y (bQ (N.map ent) (prK q) (.bl ak)) _=_;rw[axG,afC]
theorem an1{M:List (Int×Int)}(h:aY G p=aj (M.map λq=>.tup [.tup [.int q.1,.int q.2],.bl ak])):pQ [.ref p] G R=∀r,G r=bh->R (.ref r) (aH G r (setG (M.foldl xV []))):=by
 unfold L2.pQ;simp only[h,aaU];have:=afC (M:=M) (N:=[]);simp only[a2m]at this;rw[this];rfl
set_option tactic.hygienic true in
theorem arO:r∈xV M q↔r∈M∨r=q:=by
 unfold xV;split
 ·rename_i h;exact⟨.inl,λz=>z.elim id λe=>e ▸ h⟩
 .simp
theorem afD:∀{M N:List (Int×Int)},r∈M.foldl xV N↔r∈N∨r∈M
 |[],N=>by simp
 |q::M,N=>by
  rw[a1x,afD,arO,je];exact⟨λz=>z.elim (λz=>z.elim .inl λe=>.inr (.inl e)) λz=>.inr (.inr z),λz=>z.elim (λz=>.inl (.inl z)) λz=>z.elim (λe=>.inl (.inr e)) .inr⟩
theorem arP(M:List (Int×Int))(q:Int×Int):(xV M q).length<=M.length+1:=by
 unfold xV;split<;>simp
set_option tactic.hygienic true in
theorem ai8{M:List (Int×Int)}(h:M.Nodup):(xV M q).Nodup:=by
 unfold xV;split
 ·exact h
 .rename_i c;rw[uq];refine⟨h,by simp,λa ha b hb e=>?_⟩;rw[qe]at hb;subst hb e;exact c ha
end
end L7
namespace L8
open PySem PySem.Spec PyProof.Rows L2 L4 L5 L6 L7
section
variable{F:cP}{p:bw}{m:Str}{fs:List (Str×D)}
theorem aJK:kW C ta f ρ G R=ta ρ G λx G1=>apH C f x G1 R:=rfl
theorem j6(h:G p=aj (.ins C fs))(e:fs.lookup f=aj d):apH C f (.ref p) G R=R d G:=by
 unfold L2.apH;simp only[h,e];exact propext ⟨λz=>z.2,λz=>⟨trivial,z⟩⟩
theorem aED:a2H C ta tv f F ρ G=tv ρ G λy G1=>ta ρ G1 λx G2=>aeG C f x y F ρ G2:=rfl
theorem acU(h:G p=aj (.ins C fs))(hl:fs.length<1000):aeG C f (.ref p) y F ρ G=F.nx ρ (aH G p (.ins C (aeF f y fs))):=by
 unfold L2.aeG;simp only[h];exact propext ⟨λz=>z.2.2,λz=>⟨trivial,hl,z⟩⟩
theorem dU(h:G p=aj (.ins C fs))(e:fs.lookup m=bh):aeI C m (.ref p) G=True:=eq_true ⟨p,fs,rfl,h,e⟩
theorem axH{t:sS}:eE C m sp dd EX ta t ρ G R=ta ρ G λx G1=>aeI C m x G1/\t ρ G1 λds G2=>sp (x::(ds++dd)) G2 R (EX ρ):=rfl
theorem axI{t:sS}:a2I C sp dd EX t ρ G R=t ρ G λds G1=>∀x,G1 x=bh->sp (.ref x::(ds++dd)) (aH G1 x (.ins C [])) (λv G2=>v=.non/\R (.ref x) G2) (EX ρ):=rfl
theorem aND{r:RM3}{t:sS}:ahM r to t ρ G R=to ρ G λx G1=>qP x G1/\t ρ G1 λxs G2=>r x xs G2 R:=rfl
theorem axJ:pP to te tf ρ G R=to ρ G λx G1=>qP x G1/\te ρ G1 λy G2=>tf ρ G2 λz G3=>rF x y G3 λ_ _ kvs k=>R ((aJ kvs k).getD z) G3:=rfl
theorem iQ{t:Bool}(h:G p=aj (.bC t kvs)):qP (.ref p) G=True:=by
 unfold L2.qP;simp only[h]
theorem mJ{t:Bool}{k:DK}(h:G p=aj (.bC t kvs))(hk:xU y=aj k)(ht:pO k=t):rF (.ref p) y G P=P p t kvs k:=by
 unfold L2.rF;simp only[h,hk];exact propext ⟨λz=>z.2,λz=>⟨ht,z⟩⟩
theorem an2{t:Bool}{k:DK}(h:vM G p=aj (t,kvs))(hk:xU y=aj k)(ht:pO k=t):a6U (.ref p) y G P=P kvs k:=by
 unfold L2.a6U;simp only[h,hk,ht,true_and]
theorem aaV{t:Bool}(h:G p=aj (.bC t kvs)):vM G p=aj (t,kvs):=by unfold L2.vM;rw[h]
theorem aaW{o:Obj}{t:Bool}(h:G p=aj (.yM o t kvs)):vM G p=aj (t,kvs):=by unfold L2.vM;rw[h]
theorem a7G{t:Bool}{k:DK}(h:vM G p=aj (t,kvs))(hk:xU y=aj k)(ht:pO k=t)(e:aJ kvs k=aj d):lD (.ref p) y G R=R d G:=by
 unfold L2.lD;rw[an2 h hk ht];simp only[e]
theorem xJ{t:Bool}{k:DK}(h:G p=aj (.bC t kvs))(hk:xU y=aj k)(ht:pO k=t)(e:aJ kvs k=aj d):lD (.ref p) y G R=R d G:=a7G (aaV h) hk ht e
theorem akW{kvs:List (DK×D)}(h:G p=aj (.bC ao kvs)):a2L [.ref p] G R=R (.int kvs.length) G:=by
 unfold L2.a2L;simp only[h]
end
end L8
namespace L9
open PySem PySem.Spec PyProof.Rows L2 L4 L5 L6 L7 L8
variable{i:Int}{ps:List (Int×Int)}{M:List (List Key×bw)}
section
variable{F:cP}{p:bw}
noncomputable abbrev ky(a p:Int):List Key:=[.inl a,.inl p]
theorem axK:a0O to ρ G R=to ρ G λx G1=>pR x G1 R:=rfl
theorem aEE:acE to ρ G R=to ρ G λx G1=>vO x G1 R:=rfl
theorem iZ{a q:Int}:xU (.tup [.int a,.int q])=aj (.inr (ky a q)):=rfl
theorem mK:xU (.int i)=aj (.inl (.inl i)):=rfl
theorem jQ{k:List Key}:∀{M:List (List Key×bw)},aJ (M.map kY) (.inr k)=(aJ M k).map D.ref
 |[]=>rfl
 |z::M=>by
  rw[iy];unfold aJ;by_cases c:z.1=k
  .rw[if_pos c,if_pos (by show(Sum.inr z.1:DK)=_;rw[c])];rfl
  .rw[if_neg c,if_neg (show ¬ (kY z).1=Sum.inr k from λe=>c (jO _ _ e))];exact jQ
theorem pU{i:Int}:∀{ps:List (Int×Int)},aJ (ps.map jJ) (.inl (.inl i))=(aJ ps i).map D.int
 |[]=>rfl
 |z::M=>by
  rw[iy];unfold aJ;by_cases c:z.1=i
  .rw[if_pos c,if_pos (by show(Sum.inl (Sum.inl z.1):DK)=_;rw[c])];rfl
  .rw[if_neg c,if_neg (show ¬ (jJ z).1=Sum.inl (Sum.inl i)from λe=>c (by have:=m7 _ _ e;injection this))];exact pU
theorem akX{v:Int}:bQ (ps.map jJ) (.inl (.inl i)) (.int v)=(bQ ps i v).map jJ:=by
 unfold bQ;rw[pU,a2c];split
 ·rw[jt,jt];refine um λz _=>?_;show(if(Sum.inl (Sum.inl z.1):DK)=_ then _ else _)=jJ (if z.1=i then(z.1,v)else z);by_cases c:z.1=i
  .rw[if_pos c,if_pos (by rw[c])];rfl
  .rw[if_neg c,if_neg (λe=>c (by have:=m7 _ _ e;injection this))]
 .rw[mz];rfl
theorem arQ:bJ (ps.map jJ) (.inl (.inl i))=(bJ ps i).map jJ:=by
 unfold bJ;rw[a2q];congr 1;refine List.filter_congr λz _=>?_;show(!decide ((Sum.inl (Sum.inl z.1):DK)=.inl (.inl i)))=_;by_cases c:z.1=i
 .rw[c];simp
 .rw[decide_eq_false c,decide_eq_false (λe=>c (by have:=m7 _ _ e;injection this))]
theorem arR{k:List Key}:bJ (M.map kY) (.inr k)=(bJ M k).map kY:=by
 unfold bJ;rw[a2q];congr 1;refine List.filter_congr λz _=>?_;show(!decide ((Sum.inr z.1:DK)=.inr k))=_;by_cases c:z.1=k
 .rw[c];simp
 .rw[decide_eq_false c,decide_eq_false (λe=>c (jO _ _ e))]
theorem arS{κ α:Type}[DecidableEq κ]{kvs:List (κ×α)}{k:κ}{v:α}(h:aJ kvs k=bh):bQ kvs k v=kvs++[(k,v)]:=by
 unfold bQ;rw[h];rfl
theorem axL{k:DK}{kvs:List (DK×D)}(h:G p=aj (.bC ak kvs))(hk:xU y=aj k)(ht:pO k=ak)(hl:kvs.length<cu)(e:aJ kvs k=bh):a3X (.ref p) [y,z] G R=R z (aH G p (.bC ak (kvs++[(k,z)]))):=by
 unfold L2.a3X;simp only;rw[mJ h hk ht];simp only[e,arS e];exact propext ⟨λw=>w.2.2,λw=>⟨trivial,hl,w⟩⟩
theorem axM{k:DK}{kvs:List (DK×D)}(h:G p=aj (.bC ak kvs))(hk:xU y=aj k)(ht:pO k=ak)(hl:kvs.length<cu)(e:aJ kvs k=aj d):a3X (.ref p) [y,z] G R=R d G:=by
 unfold L2.a3X;simp only;rw[mJ h hk ht];simp only[e];exact propext ⟨λw=>w.2.2,λw=>⟨trivial,hl,w⟩⟩
theorem akY{t:Bool}{k:DK}(h:G p=aj (.bC t kvs))(hk:xU y=aj k)(ht:pO k=t)(e:aJ kvs k=aj d):a2K (.ref p) [y] G R=R d (aH G p (.bC t (bJ kvs k))):=by
 unfold L2.a2K;simp only;rw[mJ h hk ht];simp only[e]
theorem a5U{t:Bool}{v:D}{k:DK}{kvs:List (DK×D)}(h:G p=aj (.bC t kvs))(hk:xU y=aj k)(ht:pO k=t)(hl:kvs.length<cu):ajX (.ref p) y v F ρ G=F.nx ρ (aH G p (.bC t (bQ kvs k v))):=by
 unfold L2.ajX;rw[mJ h hk ht];exact propext ⟨λw=>w.2,λw=>⟨hl,w⟩⟩
theorem aEF{t:Bool}{k:DK}(h:G p=aj (.bC t kvs))(hk:xU y=aj k)(ht:pO k=t):aeL y (.ref p) G R=R (.bl (aJ kvs k).isSome) G:=by
 unfold L2.aeL;rw[mJ h hk ht]
theorem afE(h:G p=aj (.bC ao (ps.map jJ)))(hl:ps.length<64)(k:∀qs:List (Int×Int),qs.Perm ps->dG qs->∀r,G r=bh->R (.ref r) (aH G r (.lst (qs.map cY)))):pR (.ref p) G R:=by
 unfold L2.pR;simp only[h];exact⟨ps,rfl,hl,k⟩
theorem axN(h:G p=aj (.bC ao (ps.map jJ)))(k:R (.int (ps.map (·.2)).sum) G):vO (.ref p) G R:=by
 unfold L2.vO;simp only[h];exact⟨ps,rfl,k⟩
theorem afF{kvs:List (DK×D)}(h:G p=aj (.bC ak kvs))(e:(kvs.map λq=>dkD q.1)=ps.map cY)(nd:ps.Nodup)(hl:ps.length<64)(k:∀qs:List (Int×Int),qs.Perm ps->dG qs->∀r,G r=bh->R (.ref r) (aH G r (.lst (qs.map cY)))):nP [.ref p] G R:=by
 unfold L2.nP;simp only[h];exact⟨ps,e,nd,hl,k⟩
theorem axO{neg:Bool}{N:List (List Key×bw)}(h:G p=aj (.bC ak (M.map kY)))(h2:G q=aj (.bC ak (N.map kY)))(hc:∀z∈M++N,G z.2=aj (.bC ao ((c z.2).map jJ)))(k:R (.bl (neg ^^ eqT c M N)) G):aaF neg (.ref p) (.ref q) G R:=.inr ⟨p,q,M,N,c,rfl,rfl,h,h2,hc,k⟩
end
end L9
namespace L10
open PySem PySem.Spec PyProof.Rows L2 L4 L5 L6
section
variable{ρ:aO}{G:Gp}{F:cP}{p:bw}{al t:Bool}{kvs:List (DK×D)}{tg:TG3}{tb:bK}
theorem arT:oA al te ρ G Q=te ρ G λx G1=>a77 al x G1 Q:=rfl
theorem acV(h:G p=aj (.bC t kvs)):a77 al (.ref p) G Q=∀od,Q (.key p od t kvs) (aH G p (.yM od t kvs)):=by
 unfold L2.a77;simp only[h]
def azN(src:Src)(tg:TG3)(tb:bK)(F:cP)(ρ:aO)(G1:Gp):Prop:=∃P:Nat->aO->Gp->Prop,P 0 ρ G1/\(∀k ρ G,k<=src.items.length->P k ρ G->src.ok G) /\
 (∀k d ρ G,src.items[k]?=aj d->P k ρ G->tg d ρ λρ2=>tb {F with nx:=P (k+1),ct:=P (k+1),bk:=λρ G=>src.ok G/\F.nx ρ (src.acH G)} ρ2 G)/\∀ρ G,P src.items.length ρ G->F.nx ρ (src.acH G)
theorem aEG{ti:TI3}:a5P ti tg tb F ρ G=ti ρ G λsrc G1=>azN src tg tb F ρ G1:=rfl
theorem a2S{α β:Type}{f:α->β}{l:List α}{k:Nat}{d:β}(h:(l.map f)[k]?=aj d):∃q,l[k]?=aj q/\f q=d:=by
 rw[vp]at h;cases e:l[k]? with
 |none=>rw[e]at h;cases h
 |some q=>rw[e]at h;exact⟨q,rfl,iz.inj h⟩
theorem arU(P:Nat->aO->Gp->Prop)(h0:P 0 ρ G)(hs:∀k ρ G,P k ρ G->G p=aj (.yM od t kvs))
  (hb:∀k q ρ G,kvs[k]?=aj q->P k ρ G->tg (dkD q.1) ρ λρ2=>tb {F with nx:=P (k+1),ct:=P (k+1),bk:=λρ G=>G p=aj (.yM od t kvs)/\F.nx ρ (aH G p (.bC t kvs))} ρ2 G)
  (he:∀ρ G,P kvs.length ρ G->F.nx ρ (aH G p (.bC t kvs))):azN (.key p od t kvs) tg tb F ρ G :=
 ⟨P,h0,λk ρ G _ q=>hs k ρ G q,λk d ρ G e q=>by obtain⟨z,e1,rfl⟩:=a2S e;exact hb k z ρ G e1 q,λρ G q=>he ρ G (by simpa[Src.items]using q)⟩
end
end L10
namespace L11
open PySem PySem.Spec PyProof.Rows L2 L4 L5 L6
section
end
end L11
namespace L12
open PySem PySem.Spec PyProof.Rows L2 L4 L5 L6
section
end
end L12
namespace L15
open PySem PySem.Spec PyProof.Rows L2 L4 L5 L6
variable{F:cP}
theorem aEI:a5Q ρ G R=∀p,G p=bh->R (.ref p) (aH G p (.uV [])):=rfl
theorem aaX:iY te ρ G Q=te ρ G λx G1=>aqI x G1 Q:=rfl
theorem aEJ:acI to te tf ρ G R=to ρ G λx G1=>isNm x G1/\te ρ G1 λy G2=>tf ρ G2 λz G3=>aqE x y z G3 R:=rfl
theorem aEK:acJ to ti tv F ρ G=tv ρ G λv G1=>to ρ G1 λx G2=>ti ρ G2 λy G3=>aqF x y v F ρ G3:=rfl
theorem axP:a5S to ρ G R=to ρ G λx G1=>a5R x G1 R:=rfl
variable{i:Nat}{p:bw}
theorem aEL(h1:at3 ρ i=aj (.ref p))(h2:G p=aj (.uV kvs))(h:te ρ G λd G1=>(∃od,G1 p=aj (.rnm od kvs))/\R d (aH G1 p (.uV kvs))):rJ i te ρ G R:=⟨p,h1,.inr ⟨kvs,h2,h⟩⟩
theorem axQ{t:Bool}(h1:at3 ρ i=aj (.ref p))(h2:G p=aj (.bC t kvs))(h:te ρ G λd G1=>(∃od,G1 p=aj (.yM od t kvs))/\R d (aH G1 p (.bC t kvs))):rJ i te ρ G R:=⟨p,h1,.inl ⟨t,kvs,h2,h⟩⟩
theorem arV{ps:List (Int×Int)}(h:G p=aj (.bC ao (ps.map jJ)))(hl:ps.length<1000000)(k:∀l,G l=bh->R (.ref l) (aH G l (.lst (ps.map cY)))):a5R (.ref p) G R:=⟨ps,h,hl,k⟩
theorem arW{kvs:List (DK×D)}(h:vM G p=aj (ao,kvs))(hl:kvs.length<1000000)(k:∀r,G r=bh->R (.ref r) (aH G r (.bC ao kvs))):a0Q [.ref p] G R:=⟨ao,kvs,h,rfl,hl,k⟩
end L15
namespace Law
open PySem PySem.Spec PyProof.Rows L2 L4
noncomputable def top(i:Nat):qp:=PySem.Challenge.pw_depot_k25_what_is_told_is_ones_own.main.body.getD i (.Pass ⟨0,0,0,0⟩)
noncomputable abbrev akZ:qp:=top 0
noncomputable abbrev a7H:qp:=top 13
noncomputable abbrev aaY:qp:=top 14
noncomputable abbrev a4A:qp:=top 15
noncomputable abbrev aaZ:qp:=top 18
noncomputable abbrev a4B:qp:=top 19
noncomputable abbrev afG:qp:=top 20
noncomputable abbrev a7I:qp:=top 22
noncomputable abbrev a7J:qp:=top 23
noncomputable abbrev yS:qp:=top 24
noncomputable abbrev afH:qp:=top 27
noncomputable abbrev a7K:qp:=top 28
noncomputable abbrev dB:qp:=inClass (top 29) 0
noncomputable abbrev rK:qp:=inClass (top 29) 6
noncomputable abbrev nJ:qp:=inClass (top 29) 10
noncomputable abbrev yU:qp:=inClass (top 29) 1
noncomputable abbrev rM:qp:=inClass (top 29) 4
noncomputable abbrev mL:qp:=inClass (top 29) 9
noncomputable abbrev vV:qp:=inClass (top 29) 2
noncomputable abbrev uH:qp:=inClass (top 29) 3
noncomputable abbrev vW:qp:=inClass (top 29) 5
noncomputable abbrev rN:qp:=inClass (top 29) 7
noncomputable abbrev uI:qp:=inClass (top 29) 8
noncomputable abbrev vX:qp:=top 31
noncomputable abbrev a4C:qp:=top 32
noncomputable abbrev a4D:qp:=top 33
noncomputable abbrev a7L:qp:=top 34
noncomputable abbrev afI:qp:=top 35
set_option genInjectivity false in
structure bD where
 al0:bw
 a5V:kh
 a7M:bw
 tO:kh
 ab0:bw
 xK:kh
 a4E:bw
 pW:kh
 ab1:bw
 xM:kh
 a4F:bw
 pX:kh
 afJ:bw
 a0V:kh
 a7N:bw
 tQ:kh
 a7O:bw
 tR:kh
 yV:bw
 m8:kh
 afK:bw
 a0W:kh
 a7P:bw
 tU:kh
 bF:bw
 fG:kh
 eF:bw
 eG:kh
 cV:bw
 cW:kh
 iR:bw
 iT:kh
 eO:bw
 eU:kh
 cL:bw
 cM:kh
 gO:bw
 gP:kh
 fU:bw
 fV:kh
 gQ:bw
 gR:kh
 eV:bw
 eX:kh
 fW:bw
 fX:kh
 vY:bw
 jR:kh
 a4G:bw
 pY:kh
 a4H:bw
 pZ:kh
 a7Q:bw
 tV:kh
 a7R:bw
 azO:kh
 acW:bw
 a0X:bw
 a5W:bw
 a5X:bw
 tW:bw
 vZ:bw
 jD:bw
 aC:bw
noncomputable def arX(K:Fg)(A:bD)(ex:aO->aX):bK :=
  dI
noncomputable def axR(K:Fg)(A:bD)(ex:aO->aX):bK :=
  (ac4 (bH (bN (.bl ak))) (arX K A ex))
noncomputable def a7S(K:Fg)(A:bD):pH:=zL 1 1 λEX=>axR K A (λ_=>EX)
noncomputable def axS:CB:=(.cons (.awL (.val (.con (.bl ak))) (.cons .pass .nil)) .nil)
noncomputable def axT(K:Fg)(A:bD):SI:=⟨["k"],[ak],[ak],[ao],[],[],ak⟩
noncomputable def tX(K:Fg)(A:bD)(ex:aO->aX):bK :=
  (dY (vA (kJ (aM K) (aA (aB 0) (aA (bN (.ty "int")) aG))) (vA (abU (kJ (aM K) (aA (aB 0) (aA (bN (.ty "bool")) aG)))) (pK aoL aoL (aB 1) (aB 0) (aB 2)))))
noncomputable def c7(K:Fg)(A:bD):pH:=zL 3 3 λEX=>tX K A (λ_=>EX)
noncomputable def ai9:CB:=(.cons (.ret (.amT (.cons (.call 1 (.cons (.var 0) (.cons (.glo 0) .nil))) (.cons (.aw8 (.call 1 (.cons (.var 0) (.cons (.glo 2) .nil)))) (.cons (.chain .LtE .LtE (.var 1) (.var 0) (.var 2)) .nil))))) .nil)
noncomputable def aiA(K:Fg)(A:bD):SI:=⟨["thing","least","most"],[ak,ak,ak],[ak,ak,ak],[ao,ao,ao],[("int",.bt "int"),("isinstance",.bf .isi),("bool",.bt "bool")],[ak,ak,ak],ak⟩
noncomputable def a4I(K:Fg)(A:bD)(ex:aO->aX):bK :=
  (dY (vA (bB (c7 K A) ex (aA (aL d7 (aB 0) (bN (.int 0))) (aA (bN (.int 0)) (aA (aL a6G (aB 1) (bN (.int 1))) aG)))) (bB (c7 K A) ex (aA (aL d7 (aB 0) (bN (.int 1))) (aA (aB 2) (aA (aB 3) aG))))))
noncomputable def rO(K:Fg)(A:bD)(ex:aO->aX):bK :=
  aW (jL (ahI (v9 (bH (kJ (aM K) (aA (aB 0) (aA (bN (.ty "tuple")) aG))))) (bH (aL aoR (kJ yP (aA (aB 0) aG)) (bN (.int 2))))) (dY (bN (.bl ao))) dI) (a4I K A ex)
noncomputable def tY(K:Fg)(A:bD):pH:=zL 4 4 λEX=>rO K A (λ_=>EX)
noncomputable def an3:CB:=(.cons (.ifs (.or (.cons (.not (.val (.call 1 (.cons (.var 0) (.cons (.glo 0) .nil))))) (.cons (.cmp .NotEq (.call 2 (.cons (.var 0) .nil)) (.con (.int 2))) .nil))) (.cons (.ret (.con (.bl ao))) .nil) .nil) (.cons (.ret (.amT (.cons (.call 3 (.cons (.ix (.var 0) (.con (.int 0))) (.cons (.con (.int 0)) (.cons (.bin .Sub (.var 1) (.con (.int 1))) .nil)))) (.cons (.call 3 (.cons (.ix (.var 0) (.con (.int 1))) (.cons (.var 2) (.cons (.var 3) .nil)))) .nil)))) .nil))
noncomputable def an4(K:Fg)(A:bD):SI:=⟨["thing","aisles","first","last"],[ak,ak,ak,ak],[ak,ak,ak,ak],[ao,ao,ao,ao],[("tuple",.bt "tuple"),("isinstance",.bf .isi),("len",.bf .len),("is_whole",.fn (c7 K A) 3 ao)],[ak,ak,ak,ak],ak⟩
noncomputable def w5(K:Fg)(A:bD)(ex:aO->aX):bK :=
  (dY (bB (c7 K A) ex (aA (aB 0) (aA (bN (.int 1)) (aA (bN (.int 1000000)) aG)))))
noncomputable def nQ(K:Fg)(A:bD):pH:=zL 1 1 λEX=>w5 K A (λ_=>EX)
noncomputable def afL:CB:=(.cons (.ret (.call 1 (.cons (.var 0) (.cons (.con (.int 1)) (.cons (.glo 0) .nil))))) .nil)
noncomputable def afM(K:Fg)(A:bD):SI:=⟨["thing"],[ak],[ak],[ao],[("MOST_AMOUNT",.con (.int 1000000)),("is_whole",.fn (c7 K A) 3 ao)],[ak,ak],ak⟩
noncomputable def a4J(K:Fg)(A:bD)(ex:aO->aX):bK :=
  (dY (bB (c7 K A) ex (aA (aL d7 (aB 0) (bN (.int 2))) (aA (bN (.int 1)) (aA (bN (.int 20)) aG)))))
noncomputable def a4K(K:Fg)(A:bD)(ex:aO->aX):bK :=
  aW (jL (ahI (v9 (bH (bB (c7 K A) ex (aA (aL d7 (aB 0) (bN (.int 0))) (aA (bN (.int 1)) (aA (bN (.int 26)) aG)))))) (v9 (bH (bB (c7 K A) ex (aA (aL d7 (aB 0) (bN (.int 1))) (aA (bN (.int 1)) (aA (bN (.int 99)) aG))))))) (dY (bN (.bl ao))) dI) (a4J K A ex)
noncomputable def rP(K:Fg)(A:bD)(ex:aO->aX):bK :=
  aW (jL (ahI (v9 (bH (kJ (aM K) (aA (aB 0) (aA (bN (.ty "tuple")) aG))))) (bH (aL aoR (kJ yP (aA (aB 0) aG)) (bN (.int 3))))) (dY (bN (.bl ao))) dI) (a4K K A ex)
noncomputable def tZ(K:Fg)(A:bD):pH:=zL 1 1 λEX=>rP K A (λ_=>EX)
noncomputable def an5:CB:=(.cons (.ifs (.or (.cons (.not (.val (.call 1 (.cons (.var 0) (.cons (.glo 0) .nil))))) (.cons (.cmp .NotEq (.call 2 (.cons (.var 0) .nil)) (.con (.int 3))) .nil))) (.cons (.ret (.con (.bl ao))) .nil) .nil) (.cons (.ifs (.or (.cons (.not (.val (.call 4 (.cons (.ix (.var 0) (.con (.int 0))) (.cons (.con (.int 1)) (.cons (.glo 3) .nil)))))) (.cons (.not (.val (.call 4 (.cons (.ix (.var 0) (.con (.int 1))) (.cons (.con (.int 1)) (.cons (.glo 5) .nil)))))) .nil))) (.cons (.ret (.con (.bl ao))) .nil) .nil) (.cons (.ret (.call 4 (.cons (.ix (.var 0) (.con (.int 2))) (.cons (.con (.int 1)) (.cons (.glo 6) .nil))))) .nil)))
noncomputable def an6(K:Fg)(A:bD):SI:=⟨["thing"],[ak],[ak],[ao],[("tuple",.bt "tuple"),("isinstance",.bf .isi),("len",.bf .len),("MOST_AISLES",.con (.int 26)),("is_whole",.fn (c7 K A) 3 ao),("MOST_PLACES",.con (.int 99)),("MOST_GAP",.con (.int 20))],[ak,ak,ak,ak,ak,ak,ak],ak⟩
noncomputable def wA(K:Fg)(A:bD)(ex:aO->aX):bK :=
  (jL (v9 (bH (bB (tZ K A) ex (aA (aB 0) aG)))) (m6 ex A.a0X (aA (bN (.str "a tuple of 1 to 26 aisles, 1 to 99 places and a gap from 1 to 20 is wanted")) aG)) dI)
noncomputable def fH(K:Fg)(A:bD):pH:=zL 1 1 λEX=>wA K A (λ_=>EX)
noncomputable def afN:CB:=(.cons (.ifs (.not (.val (.call 0 (.cons (.var 0) .nil)))) (.cons (.raise 1 (.con (.str "a tuple of 1 to 26 aisles, 1 to 99 places and a gap from 1 to 20 is wanted")) .nil) .nil) .nil) .nil)
noncomputable def afO(K:Fg)(A:bD):SI:=⟨["plan"],[ak],[ak],[ao],[("is_plan",.fn (tZ K A) 1 ao),("NoPlan",.cls A.a0X)],[ak,ak],ak⟩
noncomputable def a7T(K:Fg)(A:bD)(ex:aO->aX):bK :=
  (dY (bB (tY K A) ex (aA (aB 1) (aA (aL d7 (aB 0) (bN (.int 0))) (aA (bN (.int 1)) (aA (aL d7 (aB 0) (bN (.int 1))) aG))))))
noncomputable def a7U(K:Fg)(A:bD)(ex:aO->aX):bK :=
  aW (bR (bB (fH K A) ex (aA (aB 0) aG))) (a7T K A ex)
noncomputable def xO(K:Fg)(A:bD):pH:=zL 2 2 λEX=>a7U K A (λ_=>EX)
noncomputable def arY:CB:=(.cons (.expr (.call 0 (.cons (.var 0) .nil))) (.cons (.ret (.call 1 (.cons (.var 1) (.cons (.ix (.var 0) (.con (.int 0))) (.cons (.con (.int 1)) (.cons (.ix (.var 0) (.con (.int 1))) .nil)))))) .nil))
noncomputable def arZ(K:Fg)(A:bD):SI:=⟨["plan","thing"],[ak,ak],[ak,ak],[ao,ao],[("need_plan",.fn (fH K A) 1 ao),("is_pair",.fn (tY K A) 4 ao)],[ak,ak],ak⟩
noncomputable def zM(K:Fg)(A:bD)(ex:aO->aX):bK :=
  (jL (v9 (bH (bB (c7 K A) ex (aA (aB 0) (aA (bN (.int 0)) (aA (aL a6G (aB 1) (bN (.int 1))) aG)))))) (m6 ex A.a5X (aA (bN (.str "there is no lot of that number")) aG)) dI)
noncomputable def cN(K:Fg)(A:bD):pH:=zL 2 2 λEX=>zM K A (λ_=>EX)
noncomputable def aiB:CB:=(.cons (.ifs (.not (.val (.call 0 (.cons (.var 0) (.cons (.con (.int 0)) (.cons (.bin .Sub (.var 1) (.con (.int 1))) .nil)))))) (.cons (.raise 1 (.con (.str "there is no lot of that number")) .nil) .nil) .nil) .nil)
noncomputable def aiC(K:Fg)(A:bD):SI:=⟨["thing","lots"],[ak,ak],[ak,ak],[ao,ao],[("is_whole",.fn (c7 K A) 3 ao),("NoLot",.cls A.a5X)],[ak,ak],ak⟩
noncomputable def zN(K:Fg)(A:bD)(ex:aO->aX):bK :=
  (jL (v9 (bH (bB (xO K A) ex (aA (aB 0) (aA (aB 1) aG))))) (m6 ex A.a5W (aA (bN (.str "a bin of the plan is wanted")) aG)) dI)
noncomputable def cA(K:Fg)(A:bD):pH:=zL 2 2 λEX=>zN K A (λ_=>EX)
noncomputable def aiD:CB:=(.cons (.ifs (.not (.val (.call 0 (.cons (.var 0) (.cons (.var 1) .nil))))) (.cons (.raise 1 (.con (.str "a bin of the plan is wanted")) .nil) .nil) .nil) .nil)
noncomputable def aiE(K:Fg)(A:bD):SI:=⟨["plan","thing"],[ak,ak],[ak,ak],[ao,ao],[("is_bin",.fn (xO K A) 2 ao),("NoBin",.cls A.a5W)],[ak,ak],ak⟩
noncomputable def qR(K:Fg)(A:bD)(ex:aO->aX):bK :=
  (jL (v9 (bH (bB (nQ K A) ex (aA (aB 0) aG)))) (m6 ex A.tW (aA (bN (.str "a whole number from 1 to 10 ** 6 is wanted")) aG)) dI)
noncomputable def cD(K:Fg)(A:bD):pH:=zL 1 1 λEX=>qR K A (λ_=>EX)
noncomputable def a9D:CB:=(.cons (.ifs (.not (.val (.call 0 (.cons (.var 0) .nil)))) (.cons (.raise 1 (.con (.str "a whole number from 1 to 10 ** 6 is wanted")) .nil) .nil) .nil) .nil)
noncomputable def a9E(K:Fg)(A:bD):SI:=⟨["thing"],[ak],[ak],[ao],[("is_amount",.fn (nQ K A) 1 ao),("NoAmount",.cls A.tW)],[ak,ak],ak⟩
noncomputable def u0(K:Fg)(A:bD)(ex:aO->aX):bK :=
  (jL (bH (aL xR (kJ a2L (aA (aB 4) aG)) (bN (.int 0)))) (bR (ahM a2K (aB 0) (aA (aB 1) aG))) dI)
noncomputable def a7V(K:Fg)(A:bD)(ex:aO->aX):bK :=
  aW (jL (bH (aL xR (aL lD (aB 4) (aB 2)) (bN (.int 0)))) (bR (ahM a2K (aB 4) (aA (aB 2) aG))) dI) (u0 K A ex)
noncomputable def zO(K:Fg)(A:bD)(ex:aO->aX):bK :=
  aW (zJ (aB 4) (aB 2) (aL gK (pP (aB 4) (aB 2) (bN (.int 0))) (aB 3))) (a7V K A ex)
noncomputable def wB(K:Fg)(A:bD)(ex:aO->aX):bK :=
  aW (f9 4 (ahM a3X (aB 0) (aA (aB 1) (aA vI aG)))) (zO K A ex)
noncomputable def fY(K:Fg)(A:bD):pH:=zL 5 4 λEX=>wB K A (λ_=>EX)
noncomputable def as3:CB:=(.cons (.set 4 (.dm .sdf (.var 0) (.var 1) (.cons .dct .nil))) (.cons (.ahZ (.var 4) (.var 2) (.bin .Add (.dgt (.var 4) (.var 2) (.con (.int 0))) (.var 3))) (.cons (.ifs (.cmp .Eq (.dix (.var 4) (.var 2)) (.con (.int 0))) (.cons (.expr (.dm .pop (.var 4) (.var 2) .nil)) .nil) .nil) (.cons (.ifs (.cmp .Eq (.call 0 (.cons (.var 4) .nil)) (.con (.int 0))) (.cons (.expr (.dm .pop (.var 0) (.var 1) .nil)) .nil) .nil) .nil))))
noncomputable def as4(K:Fg)(A:bD):SI:=⟨["stacks","spot","lot","more","held"],[ak,ak,ak,ak,ak],[ak,ak,ak,ak,ak],[ao,ao,ao,ao,ao],[("len",.bf .aqN)],[ak],ak⟩
noncomputable def yW(K:Fg)(A:bD)(ex:aO->aX):bK :=
  (zJ (aB 1) (aB 2) (kJ tM (aA (a0O (aL lD (aB 0) (aB 2))) aG)))
noncomputable def a0Y(K:Fg)(A:bD)(ex:aO->aX):bK :=
  (dY (aB 1))
noncomputable def a0Z(K:Fg)(A:bD)(ex:aO->aX):bK :=
  aW (vJ (ahL (kJ nP (aA (aB 0) aG))) (qN 2) (yW K A ex)) (a0Y K A ex)
noncomputable def zP(K:Fg)(A:bD)(ex:aO->aX):bK :=
  aW (f9 1 xC) (a0Z K A ex)
noncomputable def wC(K:Fg)(A:bD):pH:=zL 3 1 λEX=>zP K A (λ_=>EX)
noncomputable def aiF:CB:=(.cons (.set 1 .amU) (.cons (.af4 (.any (.call 0 (.cons (.var 0) .nil))) (.nm 2) (.cons (.ahZ (.var 1) (.var 2) (.call 2 (.cons (.sortI 1 (.dix (.var 0) (.var 2))) .nil))) .nil)) (.cons (.ret (.var 1)) .nil)))
noncomputable def aiG(K:Fg)(A:bD):SI:=⟨["stacks","told","spot"],[ak,ak,ak],[ak,ak,ak],[ao,ao,ao],[("sorted",.bf .aaP),("sorted",.bf .a79),("dict",.bf .af0)],[ak,ak,ak],ak⟩
noncomputable def mQ(K:Fg)(A:bD)(ex:aO->aX):bK :=
  (a2H A.aC (aB 0) xC "stacks")
noncomputable def mR(K:Fg)(A:bD)(ex:aO->aX):bK :=
  aW (a2H A.aC (aB 0) (aB 2) "room") (mQ K A ex)
noncomputable def mU(K:Fg)(A:bD)(ex:aO->aX):bK :=
  aW (a2H A.aC (aB 0) (aB 1) "layout") (mR K A ex)
noncomputable def mV(K:Fg)(A:bD)(ex:aO->aX):bK :=
  aW (bR (bB (cD K A) ex (aA (aB 2) aG))) (mU K A ex)
noncomputable def j7(K:Fg)(A:bD)(ex:aO->aX):bK :=
  aW (bR (bB (fH K A) ex (aA (aB 1) aG))) (mV K A ex)
noncomputable def cX(K:Fg)(A:bD):pH:=zL 3 3 λEX=>j7 K A (λ_=>EX)
noncomputable def dD:CB:=(.cons (.expr (.call 0 (.cons (.var 1) .nil))) (.cons (.expr (.call 1 (.cons (.var 2) .nil))) (.cons (.amX 2 (.var 0) (.var 1)) (.cons (.amX 3 (.var 0) (.var 2)) (.cons (.amX 4 (.var 0) .amU) .nil)))))
noncomputable def zQ(K:Fg)(A:bD):SI:=⟨["self","plan","room"],[ak,ak,ak],[ak,ak,ak],[ao,ao,ao],[("need_plan",.fn (fH K A) 1 ao),("need_amount",.fn (cD K A) 1 ao),("Shelves.layout",.fl A.aC "layout"),("Shelves.room",.fl A.aC "room"),("Shelves.stacks",.fl A.aC "stacks")],[ak,ak,ao,ao,ao],ak⟩
noncomputable def oH(K:Fg)(A:bD)(ex:aO->aX):bK :=
  (dY (acE (pP (kW A.aC (aB 0) "stacks") (aB 1) vI)))
noncomputable def lF(K:Fg)(A:bD)(ex:aO->aX):bK :=
  aW (bR (bB (cA K A) ex (aA (kW A.aC (aB 0) "layout") (aA (aB 1) aG)))) (oH K A ex)
noncomputable def gB(K:Fg)(A:bD):pH:=zL 2 2 λEX=>lF K A (λ_=>EX)
noncomputable def a2T:CB:=(.cons (.expr (.call 1 (.cons (.fld 0 (.var 0)) (.cons (.var 1) .nil)))) (.cons (.ret (.awA 2 (.dgt (.fld 3 (.var 0)) (.var 1) .dct))) .nil))
noncomputable def a2U(K:Fg)(A:bD):SI:=⟨["self","spot"],[ak,ak],[ak,ak],[ao,ao],[("Shelves.layout",.fl A.aC "layout"),("need_bin",.fn (cA K A) 2 ao),("sum",.bf .sum),("Shelves.stacks",.fl A.aC "stacks")],[ao,ak,ak,ao],ak⟩
noncomputable def iI(K:Fg)(A:bD)(ex:aO->aX):bK :=
  (jL (bH (aL auP (aL gK (eE A.aC "filled" (gB K A) [] ex (aB 0) (aA (aB 1) aG)) (aB 2)) (kW A.aC (aB 0) "room"))) (m6 ex A.vZ (aA (bN (.str "the bin would have more than its room")) aG)) dI)
noncomputable def dN(K:Fg)(A:bD):pH:=zL 3 3 λEX=>iI K A (λ_=>EX)
noncomputable def xW:CB:=(.cons (.ifs (.cmp .Gt (.bin .Add (.jP 0 (.var 0) (.cons (.var 1) .nil)) (.var 2)) (.fld 1 (.var 0))) (.cons (.raise 2 (.con (.str "the bin would have more than its room")) .nil) .nil) .nil) .nil)
noncomputable def xX(K:Fg)(A:bD):SI:=⟨["self","spot","amount"],[ak,ak,ak],[ak,ak,ak],[ao,ao,ao],[("Shelves.filled#1",.me A.aC "filled" (gB K A) []),("Shelves.room",.fl A.aC "room"),("NoRoom",.cls A.vZ)],[ao,ao,ak],ak⟩
noncomputable def uJ(K:Fg)(A:bD)(ex:aO->aX):bK :=
  (bR (bB (fY K A) ex (aA (kW A.aC (aB 0) "stacks") (aA (aB 2) (aA (aB 1) (aA (aB 3) aG))))))
noncomputable def uK(K:Fg)(A:bD)(ex:aO->aX):bK :=
  aW (bR (eE A.aC "need_room" (dN K A) [] ex (aB 0) (aA (aB 2) (aA (aB 3) aG)))) (uJ K A ex)
noncomputable def uL(K:Fg)(A:bD)(ex:aO->aX):bK :=
  aW (bR (bB (cD K A) ex (aA (aB 3) aG))) (uK K A ex)
noncomputable def uM(K:Fg)(A:bD)(ex:aO->aX):bK :=
  aW (bR (bB (cA K A) ex (aA (kW A.aC (aB 0) "layout") (aA (aB 2) aG)))) (uL K A ex)
noncomputable def qT(K:Fg)(A:bD)(ex:aO->aX):bK :=
  aW (bR (bB (cN K A) ex (aA (aB 1) (aA (bN (.int 1000)) aG)))) (uM K A ex)
noncomputable def eY(K:Fg)(A:bD):pH:=zL 4 4 λEX=>qT K A (λ_=>EX)
noncomputable def a9F:CB:=(.cons (.expr (.call 1 (.cons (.var 1) (.cons (.glo 0) .nil)))) (.cons (.expr (.call 3 (.cons (.fld 2 (.var 0)) (.cons (.var 2) .nil)))) (.cons (.expr (.call 4 (.cons (.var 3) .nil))) (.cons (.expr (.jP 5 (.var 0) (.cons (.var 2) (.cons (.var 3) .nil)))) (.cons (.expr (.call 7 (.cons (.fld 6 (.var 0)) (.cons (.var 2) (.cons (.var 1) (.cons (.var 3) .nil)))))) .nil)))))
noncomputable def a9G(K:Fg)(A:bD):SI:=⟨["self","lot","spot","amount"],[ak,ak,ak,ak],[ak,ak,ak,ak],[ao,ao,ao,ao],[("MOST_LOTS",.con (.int 1000)),("need_lot",.fn (cN K A) 2 ao),("Shelves.layout",.fl A.aC "layout"),("need_bin",.fn (cA K A) 2 ao),("need_amount",.fn (cD K A) 1 ao),("Shelves.need_room#2",.me A.aC "need_room" (dN K A) []),("Shelves.stacks",.fl A.aC "stacks"),("change",.fn (fY K A) 4 ao)],[ak,ak,ao,ak,ak,ao,ao,ak],ak⟩
noncomputable def oJ(K:Fg)(A:bD)(ex:aO->aX):bK :=
  (dY (pP (pP (kW A.aC (aB 0) "stacks") (aB 2) vI) (aB 1) (bN (.int 0))))
noncomputable def oK(K:Fg)(A:bD)(ex:aO->aX):bK :=
  aW (bR (bB (cA K A) ex (aA (kW A.aC (aB 0) "layout") (aA (aB 2) aG)))) (oJ K A ex)
noncomputable def lG(K:Fg)(A:bD)(ex:aO->aX):bK :=
  aW (bR (bB (cN K A) ex (aA (aB 1) (aA (bN (.int 1000)) aG)))) (oK K A ex)
noncomputable def gC(K:Fg)(A:bD):pH:=zL 3 3 λEX=>lG K A (λ_=>EX)
noncomputable def a2V:CB:=(.cons (.expr (.call 1 (.cons (.var 1) (.cons (.glo 0) .nil)))) (.cons (.expr (.call 3 (.cons (.fld 2 (.var 0)) (.cons (.var 2) .nil)))) (.cons (.ret (.dgt (.dgt (.fld 4 (.var 0)) (.var 2) .dct) (.var 1) (.con (.int 0)))) .nil)))
noncomputable def a2W(K:Fg)(A:bD):SI:=⟨["self","lot","spot"],[ak,ak,ak],[ak,ak,ak],[ao,ao,ao],[("MOST_LOTS",.con (.int 1000)),("need_lot",.fn (cN K A) 2 ao),("Shelves.layout",.fl A.aC "layout"),("need_bin",.fn (cA K A) 2 ao),("Shelves.stacks",.fl A.aC "stacks")],[ak,ak,ao,ak,ao],ak⟩
noncomputable def gU(K:Fg)(A:bD)(ex:aO->aX):bK :=
  (jL (bH (aL aoK (eE A.aC "amount" (gC K A) [] ex (aB 0) (aA (aB 1) (aA (aB 2) aG))) (aB 3))) (m6 ex A.jD (aA (bN (.str "less of the lot lies in the bin")) aG)) dI)
noncomputable def dH(K:Fg)(A:bD):pH:=zL 4 4 λEX=>gU K A (λ_=>EX)
noncomputable def wD:CB:=(.cons (.ifs (.cmp .Lt (.jP 0 (.var 0) (.cons (.var 1) (.cons (.var 2) .nil))) (.var 3)) (.cons (.raise 1 (.con (.str "less of the lot lies in the bin")) .nil) .nil) .nil) .nil)
noncomputable def wF(K:Fg)(A:bD):SI:=⟨["self","lot","spot","amount"],[ak,ak,ak,ak],[ak,ak,ak,ak],[ao,ao,ao,ao],[("Shelves.amount#2",.me A.aC "amount" (gC K A) []),("TooLittle",.cls A.jD)],[ao,ak],ak⟩
noncomputable def rQ(K:Fg)(A:bD)(ex:aO->aX):bK :=
  (bR (bB (fY K A) ex (aA (kW A.aC (aB 0) "stacks") (aA (aB 2) (aA (aB 1) (aA (ajN (aB 3)) aG))))))
noncomputable def rR(K:Fg)(A:bD)(ex:aO->aX):bK :=
  aW (bR (eE A.aC "need_there" (dH K A) [] ex (aB 0) (aA (aB 1) (aA (aB 2) (aA (aB 3) aG))))) (rQ K A ex)
noncomputable def rT(K:Fg)(A:bD)(ex:aO->aX):bK :=
  aW (bR (bB (cD K A) ex (aA (aB 3) aG))) (rR K A ex)
noncomputable def rW(K:Fg)(A:bD)(ex:aO->aX):bK :=
  aW (bR (bB (cA K A) ex (aA (kW A.aC (aB 0) "layout") (aA (aB 2) aG)))) (rT K A ex)
noncomputable def oM(K:Fg)(A:bD)(ex:aO->aX):bK :=
  aW (bR (bB (cN K A) ex (aA (aB 1) (aA (bN (.int 1000)) aG)))) (rW K A ex)
noncomputable def dJ(K:Fg)(A:bD):pH:=zL 4 4 λEX=>oM K A (λ_=>EX)
noncomputable def a7W:CB:=(.cons (.expr (.call 1 (.cons (.var 1) (.cons (.glo 0) .nil)))) (.cons (.expr (.call 3 (.cons (.fld 2 (.var 0)) (.cons (.var 2) .nil)))) (.cons (.expr (.call 4 (.cons (.var 3) .nil))) (.cons (.expr (.jP 5 (.var 0) (.cons (.var 1) (.cons (.var 2) (.cons (.var 3) .nil))))) (.cons (.expr (.call 7 (.cons (.fld 6 (.var 0)) (.cons (.var 2) (.cons (.var 1) (.cons (.neg (.var 3)) .nil)))))) .nil)))))
noncomputable def a7X(K:Fg)(A:bD):SI:=⟨["self","lot","spot","amount"],[ak,ak,ak,ak],[ak,ak,ak,ak],[ao,ao,ao,ao],[("MOST_LOTS",.con (.int 1000)),("need_lot",.fn (cN K A) 2 ao),("Shelves.layout",.fl A.aC "layout"),("need_bin",.fn (cA K A) 2 ao),("need_amount",.fn (cD K A) 1 ao),("Shelves.need_there#3",.me A.aC "need_there" (dH K A) []),("Shelves.stacks",.fl A.aC "stacks"),("change",.fn (fY K A) 4 ao)],[ak,ak,ao,ak,ak,ao,ao,ak],ak⟩
noncomputable def a4U(K:Fg)(A:bD)(ex:aO->aX):bK :=
  (bR (bB (a7S K A) ex (aA (bN (.int 0)) aG)))
noncomputable def a2X(K:Fg)(A:bD):pH:=zL 5 5 λEX=>a4U K A (λ_=>EX)
noncomputable def a4V:CB:=(.cons (.expr (.call 0 (.cons (.con (.int 0)) .nil))) .nil)
noncomputable def a4W(K:Fg)(A:bD):SI:=⟨["self","lot","one","other","amount"],[ak,ak,ak,ak,ak],[ak,ak,ak,ak,ak],[ao,ao,ao,ao,ao],[("_wall",.fn (a7S K A) 1 ao)],[ak],ak⟩
noncomputable def rY(K:Fg)(A:bD)(ex:aO->aX):bK :=
  (dY (a0O (pP (kW A.aC (aB 0) "stacks") (aB 1) vI)))
noncomputable def oN(K:Fg)(A:bD)(ex:aO->aX):bK :=
  aW (bR (bB (cA K A) ex (aA (kW A.aC (aB 0) "layout") (aA (aB 1) aG)))) (rY K A ex)
noncomputable def cT(K:Fg)(A:bD):pH:=zL 2 2 λEX=>oN K A (λ_=>EX)
noncomputable def a7Y:CB:=(.cons (.expr (.call 1 (.cons (.fld 0 (.var 0)) (.cons (.var 1) .nil)))) (.cons (.ret (.sortI 2 (.dgt (.fld 3 (.var 0)) (.var 1) .dct))) .nil))
noncomputable def a7Z(K:Fg)(A:bD):SI:=⟨["self","spot"],[ak,ak],[ak,ak],[ao,ao],[("Shelves.layout",.fl A.aC "layout"),("need_bin",.fn (cA K A) 2 ao),("sorted",.bf .a79),("Shelves.stacks",.fl A.aC "stacks")],[ao,ak,ak,ao],ak⟩
noncomputable def oO(K:Fg)(A:bD)(ex:aO->aX):bK :=
  (dY (jN (a2C (kJ nP (aA (kW A.aC (aB 0) "stacks") aG))) (bH (aL aeL (aB 2) (aL lD (kW A.aC (aB 1) "stacks") (aB 0)))) (gJ (aA (aB 0) (aA (aL lD (aL lD (kW A.aC (aB 1) "stacks") (aB 0)) (aB 2)) aG)))))
noncomputable def lH(K:Fg)(A:bD)(ex:aO->aX):bK :=
  aW (bR (bB (cN K A) ex (aA (aB 1) (aA (bN (.int 1000)) aG)))) (oO K A ex)
noncomputable def cF(K:Fg)(A:bD):pH:=zL 2 2 λEX=>lH K A (λ_=>EX)
noncomputable def a2Y:CB:=(.cons (.expr (.call 1 (.cons (.var 1) (.cons (.glo 0) .nil)))) (.cons (.ret (.comp [ak,ak] [ao,ao,ao,ao] (.any (.call 3 (.cons (.fld 2 (.var 0)) .nil))) (.some (.din ao (.var 2) (.dix (.fld 2 (.var 1)) (.var 0)))) (.tup (.cons (.var 0) (.cons (.dix (.dix (.fld 2 (.var 1)) (.var 0)) (.var 2)) .nil))))) .nil))
noncomputable def a2Z(K:Fg)(A:bD):SI:=⟨["self","lot"],[ak,ak],[ao,ao],[ak,ak],[("MOST_LOTS",.con (.int 1000)),("need_lot",.fn (cN K A) 2 ao),("Shelves.stacks",.fl A.aC "stacks"),("sorted",.bf .aaP)],[ak,ak,ao,ak],ak⟩
noncomputable def mZ(K:Fg)(A:bD)(ex:aO->aX):bK :=
  (dY (bB (wC K A) ex (aA (kW A.aC (aB 0) "stacks") aG)))
noncomputable def cB(K:Fg)(A:bD):pH:=zL 1 1 λEX=>mZ K A (λ_=>EX)
noncomputable def a4X:CB:=(.cons (.ret (.call 1 (.cons (.fld 0 (.var 0)) .nil))) .nil)
noncomputable def a4Y(K:Fg)(A:bD):SI:=⟨["self"],[ak],[ak],[ao],[("Shelves.stacks",.fl A.aC "stacks"),("in_order",.fn (wC K A) 1 ao)],[ao,ak],ak⟩
noncomputable def rZ(K:Fg)(A:bD)(ex:aO->aX):bK :=
  (dY (aL jA (aL gK (aL a0D (aB 2) (aB 2)) (aL a0D (bN (.int 48271)) (aB 1))) (bN (.int 2147483629))))
noncomputable def sE(K:Fg)(A:bD)(ex:aO->aX):bK :=
  aW (f9 2 (aL jA (aL gK (aL a0D (aL d7 (aB 0) (aL jA (aB 1) (kJ yP (aA (aB 0) aG)))) (bN (.int 48271))) (aL a0D (aB 1) (bN (.int 104729)))) (bN (.int 2147483647)))) (rZ K A ex)
noncomputable def sG(K:Fg)(A:bD)(ex:aO->aX):bK :=
  aW (jL (bH (aL xR (aB 0) (pL aG))) (dY (bN (.int 0))) dI) (sE K A ex)
noncomputable def oR(K:Fg)(A:bD)(ex:aO->aX):bK :=
  aW (jL (bH (aL aoK (aB 1) (kJ yP (aA (aB 0) aG)))) (dY (aL d7 (aB 0) (aB 1))) dI) (sG K A ex)
noncomputable def bM(K:Fg)(A:bD):pH:=zL 3 2 λEX=>oR K A (λ_=>EX)
noncomputable def a80:CB:=(.cons (.ifs (.cmp .Lt (.var 1) (.call 0 (.cons (.var 0) .nil))) (.cons (.ret (.ix (.var 0) (.var 1))) .nil) .nil) (.cons (.ifs (.cmp .Eq (.var 0) (.lst .nil)) (.cons (.ret (.con (.int 0))) .nil) .nil) (.cons (.set 2 (.bin .Mod (.bin .Add (.bin .Mult (.ix (.var 0) (.bin .Mod (.var 1) (.call 0 (.cons (.var 0) .nil)))) (.con (.int 48271))) (.bin .Mult (.var 1) (.con (.int 104729)))) (.con (.int 2147483647)))) (.cons (.ret (.bin .Mod (.bin .Add (.bin .Mult (.var 2) (.var 2)) (.bin .Mult (.con (.int 48271)) (.var 1))) (.con (.int 2147483629)))) .nil))))
noncomputable def a81(K:Fg)(A:bD):SI:=⟨["_law_script","_law_k","_law_mixed"],[ak,ak,ak],[ak,ak,ak],[ao,ao,ao],[("len",.bf .len)],[ak],ak⟩
noncomputable def yX(K:Fg)(A:bD)(ex:aO->aX):bK :=
  (dY (gJ (aA (aB 4) (aA (aB 5) (aA (aL gK (bN (.int 1)) (aL jA (aL tE (aB 2) (bN (.int 104))) (bN (.int 20)))) aG)))))
noncomputable def yZ(K:Fg)(A:bD)(ex:aO->aX):bK :=
  aW (f9 5 (aL d7 (pL (aA (aL gK (bN (.int 1)) (aL jA (aB 3) (bN (.int 6)))) (aA (aL gK (bN (.int 1)) (aL jA (aB 3) (bN (.int 99)))) aG))) (kJ ae6 (aA (aL xR (aL jA (aL tE (aB 3) (bN (.int 99))) (bN (.int 4))) (bN (.int 1))) aG)))) (yX K A ex)
noncomputable def z6(K:Fg)(A:bD)(ex:aO->aX):bK :=
  aW (f9 4 (aL d7 (pL (aA (aL gK (bN (.int 1)) (aL jA (aB 2) (bN (.int 4)))) (aA (aL gK (bN (.int 1)) (aL jA (aB 2) (bN (.int 26)))) aG))) (kJ ae6 (aA (aL xR (aL jA (aL tE (aB 2) (bN (.int 26))) (bN (.int 4))) (bN (.int 1))) aG)))) (yZ K A ex)
noncomputable def z7(K:Fg)(A:bD)(ex:aO->aX):bK :=
  aW (f9 3 (bB (bM K A) ex (aA (aB 0) (aA (aL gK (aB 1) (bN (.int 1))) aG)))) (z6 K A ex)
noncomputable def wH(K:Fg)(A:bD)(ex:aO->aX):bK :=
  aW (f9 2 (bB (bM K A) ex (aA (aB 0) (aA (aB 1) aG)))) (z7 K A ex)
noncomputable def nR(K:Fg)(A:bD):pH:=zL 6 2 λEX=>wH K A (λ_=>EX)
noncomputable def afP:CB:=(.cons (.set 2 (.call 0 (.cons (.var 0) (.cons (.var 1) .nil)))) (.cons (.set 3 (.call 0 (.cons (.var 0) (.cons (.bin .Add (.var 1) (.con (.int 1))) .nil)))) (.cons (.set 4 (.ix (.lst (.cons (.bin .Add (.con (.int 1)) (.bin .Mod (.var 2) (.con (.int 4)))) (.cons (.bin .Add (.con (.int 1)) (.bin .Mod (.var 2) (.con (.int 26)))) .nil))) (.call 1 (.cons (.cmp .Eq (.bin .Mod (.bin .FloorDiv (.var 2) (.con (.int 26))) (.con (.int 4))) (.con (.int 1))) .nil)))) (.cons (.set 5 (.ix (.lst (.cons (.bin .Add (.con (.int 1)) (.bin .Mod (.var 3) (.con (.int 6)))) (.cons (.bin .Add (.con (.int 1)) (.bin .Mod (.var 3) (.con (.int 99)))) .nil))) (.call 1 (.cons (.cmp .Eq (.bin .Mod (.bin .FloorDiv (.var 3) (.con (.int 99))) (.con (.int 4))) (.con (.int 1))) .nil)))) (.cons (.ret (.tup (.cons (.var 4) (.cons (.var 5) (.cons (.bin .Add (.con (.int 1)) (.bin .Mod (.bin .FloorDiv (.var 2) (.con (.int 104))) (.con (.int 20)))) .nil))))) .nil)))))
noncomputable def afQ(K:Fg)(A:bD):SI:=⟨["_law_script","_law_k","_law_cell","_law_other","_law_aisles","_law_places"],[ak,ak,ak,ak,ak,ak],[ak,ak,ak,ak,ak,ak],[ao,ao,ao,ao,ao,ao],[("_law_cell_at",.fn (bM K A) 2 ao),("int",.bt "int")],[ak,ak],ak⟩
noncomputable def z8(K:Fg)(A:bD)(ex:aO->aX):bK :=
  (dY (aL gK (aB 3) (pL (aA (jN (oA ak (eE A.aC "lying" (cB K A) [] ex (aB 0) aG)) qM (gJ (aA (aB 0) (aA (a5S (aL lD (eE A.aC "lying" (cB K A) [] NoX (aB 1) aG) (aB 0))) aG)))) aG))))
noncomputable def wI(K:Fg)(A:bD)(ex:aO->aX):bK :=
  aW (f9 3 (aL gK (jN (a2C (aB 1)) qM (eE A.aC "held" (cT K A) [] NoX (aB 1) (aA (aB 0) aG))) (jN (a2C (aB 2)) qM (eE A.aC "places" (cF K A) [] NoX (aB 1) (aA (aB 0) aG))))) (z8 K A ex)
noncomputable def iD(K:Fg)(A:bD):pH:=zL 4 3 λEX=>wI K A (λ_=>EX)
noncomputable def afR:CB:=(.cons (.set 3 (.bin .Add (.comp [ak,ao,ao,ao] [ao,ao,ao,ao] (.any (.var 1)) .none (.jP 0 (.var 1) (.cons (.var 0) .nil))) (.comp [ak,ao,ao,ao] [ao,ao,ao,ao] (.any (.var 2)) .none (.jP 1 (.var 1) (.cons (.var 0) .nil))))) (.cons (.ret (.bin .Add (.var 3) (.lst (.cons (.comp [ak,ao,ao,ao] [ao,ao,ao,ak] (.keys (.jP 2 (.var 0) .nil)) .none (.tup (.cons (.var 0) (.cons (.listI 3 (.dix (.jP 2 (.var 1) .nil) (.var 0))) .nil)))) .nil)))) .nil))
noncomputable def afS(K:Fg)(A:bD):SI:=⟨["_law_shelves","_law_spots","_law_lots","_law_found"],[ak,ak,ak,ak],[ao,ak,ak,ak],[ak,ao,ao,ao],[("Shelves.held#1",.me A.aC "held" (cT K A) []),("Shelves.places#1",.me A.aC "places" (cF K A) []),("Shelves.lying#0",.me A.aC "lying" (cB K A) []),("list",.bt "list")],[ao,ao,ao,ao],ak⟩
noncomputable def qU(K:Fg)(A:bD)(ex:aO->aX):bK :=
  (bR (tM3 "list" jM (aB 3) (aA (kJ tL (aA (rJ 0 (jN (iY (aB 0)) (bH (aL xR (aL d7 (aB 0) (bN (.int 0))) (aB 5))) (gJ (aA (aL d7 (aB 0) (bN (.int 1))) (aA (aL yQ (aB 1) (aB 0)) aG))))) aG)) aG)))
noncomputable def qW(K:Fg)(A:bD)(ex:aO->aX):bK :=
  (bR (tM3 "list" jM (aB 5) (aA (kJ a0P (aA (rJ 0 (jN (iY (aB 0)) (bH (aL xR (aL d7 (aB 0) (bN (.int 1))) (aB 7))) (gJ (aA (aL d7 (aB 0) (bN (.int 0))) (aA (aL yQ (aB 1) (aB 0)) aG))))) aG)) aG)))
noncomputable def m9(K:Fg)(A:bD)(ex:aO->aX):bK :=
  (bR (tM3 "list" jM (aB 7) (aA (gJ (aA (aB 4) (aA (kJ tL (aA (rJ 0 (jN (iY (aB 0)) (bH (aL xR (aL d7 (aB 0) (bN (.int 0))) (aB 5))) (gJ (aA (aL d7 (aB 0) (bN (.int 1))) (aA (aL yQ (aB 1) (aB 0)) aG))))) aG)) aG))) aG)))
noncomputable def a1A(K:Fg)(A:bD)(ex:aO->aX):bK :=
  (dY (aL gK (aL gK (aB 3) (aB 5)) (pL (aA (aB 7) aG))))
noncomputable def a1B(K:Fg)(A:bD)(ex:aO->aX):bK :=
  aW (vJ (ahL (kJ nP (aA (kJ pQ (aA (rJ 0 (jN (iY (aB 0)) qM (gJ (aA (aL d7 (aB 0) (bN (.int 0))) (aA (bN (.bl ak)) aG))))) aG)) aG))) (qN 4) (m9 K A ex)) (a1A K A ex)
noncomputable def a1C(K:Fg)(A:bD)(ex:aO->aX):bK :=
  aW (f9 7 (pL aG)) (a1B K A ex)
noncomputable def a1D(K:Fg)(A:bD)(ex:aO->aX):bK :=
  aW (vJ (ahL (aB 2)) (qN 6) (qW K A ex)) (a1C K A ex)
noncomputable def a1E(K:Fg)(A:bD)(ex:aO->aX):bK :=
  aW (f9 5 (pL aG)) (a1D K A ex)
noncomputable def a1F(K:Fg)(A:bD)(ex:aO->aX):bK :=
  aW (vJ (ahL (aB 1)) (qN 4) (qU K A ex)) (a1E K A ex)
noncomputable def zR(K:Fg)(A:bD)(ex:aO->aX):bK :=
  aW (f9 3 (pL aG)) (a1F K A ex)
noncomputable def jE(K:Fg)(A:bD):pH:=zL 8 3 λEX=>zR K A (λ_=>EX)
noncomputable def aiH:CB:=(.cons (.set 3 (.lst .nil)) (.cons (.af4 (.any (.var 1)) (.nm 4) (.cons (.expr (.meth .append (.var 3) (.cons (.call 0 (.cons (.thw 0 (.comp [ak,ao,ao,ao,ak,ao,ao,ao] [ao,ao,ao,ao] (.yR (.var 0)) (.some (.cmp .Eq (.ix (.var 0) (.con (.int 0))) (.var 5))) (.tup (.cons (.ix (.var 0) (.con (.int 1))) (.cons (.nix (.var 1) (.var 0)) .nil))))) .nil)) .nil))) .nil)) (.cons (.set 5 (.lst .nil)) (.cons (.af4 (.any (.var 2)) (.nm 6) (.cons (.expr (.meth .append (.var 5) (.cons (.call 1 (.cons (.thw 0 (.comp [ak,ao,ao,ao,ao,ao,ak,ao] [ao,ao,ao,ao] (.yR (.var 0)) (.some (.cmp .Eq (.ix (.var 0) (.con (.int 1))) (.var 7))) (.tup (.cons (.ix (.var 0) (.con (.int 0))) (.cons (.nix (.var 1) (.var 0)) .nil))))) .nil)) .nil))) .nil)) (.cons (.set 7 (.lst .nil)) (.cons (.af4 (.any (.call 3 (.cons (.call 2 (.cons (.thw 0 (.comp [ao,ao,ao,ao,ao,ao,ao,ao] [ao,ao,ao,ao] (.yR (.var 0)) .none (.tup (.cons (.ix (.var 0) (.con (.int 0))) (.cons (.con (.bl ak)) .nil))))) .nil)) .nil))) (.nm 4) (.cons (.expr (.meth .append (.var 7) (.cons (.tup (.cons (.var 4) (.cons (.call 0 (.cons (.thw 0 (.comp [ak,ao,ao,ao,ak,ao,ao,ao] [ao,ao,ao,ao] (.yR (.var 0)) (.some (.cmp .Eq (.ix (.var 0) (.con (.int 0))) (.var 5))) (.tup (.cons (.ix (.var 0) (.con (.int 1))) (.cons (.nix (.var 1) (.var 0)) .nil))))) .nil)) .nil))) .nil))) .nil)) (.cons (.ret (.bin .Add (.bin .Add (.var 3) (.var 5)) (.lst (.cons (.var 7) .nil)))) .nil)))))))
noncomputable def aiI(K:Fg)(A:bD):SI:=⟨["_law_model","_law_spots","_law_lots","_law_held","_law_spot","_law_places","_law_lot","_law_lying"],[ak,ak,ak,ak,ak,ak,ak,ak],[ao,ak,ak,ak,ao,ak,ao,ak],[ak,ao,ao,ao,ak,ao,ak,ao],[("sorted",.bf .a79),("sorted",.bf .akG),("dict",.bf .aaO),("sorted",.bf .aaP)],[ak,ak,ak,ak],ak⟩
noncomputable def a1G(K:Fg)(A:bD)(ex:aO->aX):bK :=
  (zJ (aL lD (aB 12) (aB 14)) (bN (.int 5)) (bN (.int 7)))
noncomputable def wJ(K:Fg)(A:bD)(ex:aO->aX):bK :=
  (jL (bH (aL a6P (bB (iD K A) ex (aA (aB 4) (aA (aB 2) (aA (aB 3) aG)))) (bB (jE K A) ex (aA (aB 6) (aA (aB 2) (aA (aB 3) aG)))))) (dY (bN (.bl ao))) dI)
noncomputable def wK(K:Fg)(A:bD)(ex:aO->aX):bK :=
  aW (bR (tM3 "list" jM (eE A.aC "places" (cF K A) [] ex (aB 4) (aA (aL d7 (aB 3) (bN (.int 0))) aG)) (aA (bN (.int 1)) aG))) (wJ K A ex)
noncomputable def a4L(K:Fg)(A:bD)(ex:aO->aX):bK :=
  aW (zJ (aB 12) (gJ (aA (bN (.int 9)) (aA (bN (.int 9)) aG))) vI) (wK K A ex)
noncomputable def a4M(K:Fg)(A:bD)(ex:aO->aX):bK :=
  aW (a5P (oA ao (aB 12)) (qN 14) (a1G K A ex)) (a4L K A ex)
noncomputable def wL(K:Fg)(A:bD)(ex:aO->aX):bK :=
  aW (bR (tM3 "list" jM (aB 11) (aA (gJ (aA (bN (.int 5)) (aA (bN (.int 5)) aG))) aG))) (a4M K A ex)
noncomputable def a4N(K:Fg)(A:bD)(ex:aO->aX):bK :=
  aW (bR (eE A.aC "take" (dJ K A) [] ex (aB 4) (aA (aL d7 (aB 3) (bN (.int 0))) (aA (aL d7 (aB 2) (bN (.int 0))) (aA (bN (.int 1)) aG))))) (wL K A ex)
noncomputable def a4O(K:Fg)(A:bD)(ex:aO->aX):bK :=
  aW (jL (bH (aL acK (gJ (aA (aB 11) (aA (aB 12) aG))) (aB 13))) (dY (bN (.bl ao))) dI) (a4N K A ex)
noncomputable def qC(K:Fg)(A:bD)(ex:aO->aX):bK :=
  aW (bR (eE A.aC "put" (eY K A) [] ex (aB 4) (aA (aL d7 (aB 3) (bN (.int 0))) (aA (aL d7 (aB 2) (bN (.int 0))) (aA (bN (.int 1)) aG))))) (a4O K A ex)
noncomputable def zT(K:Fg)(A:bD)(ex:aO->aX):bK :=
  aW (ak1 14 (f9 13 (gJ (aA (kJ a6J (aA (aB 11) aG)) (aA (kJ pQ (aA (rJ 12 (jN (oA ak (aB 12)) qM (gJ (aA (aB 0) (aA (kJ a0Q (aA (aL lD (aB 13) (aB 0)) aG)) aG))))) aG)) aG))))) (qC K A ex)
noncomputable def a82(K:Fg)(A:bD)(ex:aO->aX):bK :=
  aW (jL (bH (aL a6P (bB (iD K A) ex (aA (aB 4) (aA (aB 2) (aA (aB 3) aG)))) (bB (jE K A) ex (aA (aB 6) (aA (aB 2) (aA (aB 3) aG)))))) (dY (bN (.bl ao))) dI) (zT K A ex)
noncomputable def a83(K:Fg)(A:bD)(ex:aO->aX):bK :=
  aW (f9 12 (eE A.aC "lying" (cB K A) [] ex (aB 4) aG)) (a82 K A ex)
noncomputable def zU(K:Fg)(A:bD)(ex:aO->aX):bK :=
  aW (f9 11 (eE A.aC "held" (cT K A) [] ex (aB 4) (aA (aL d7 (aB 2) (bN (.int 0))) aG))) (a83 K A ex)
noncomputable def a84(K:Fg)(A:bD)(ex:aO->aX):bK :=
  aW (acJ (aB 6) (aB 9) (aL gK (acI (aB 6) (aB 9) (bN (.int 0))) (aB 10))) (zU K A ex)
noncomputable def a85(K:Fg)(A:bD)(ex:aO->aX):bK :=
  aW (bR (eE A.aC "put" (eY K A) [] ex (aB 4) (aA (aL d7 (aB 9) (bN (.int 1))) (aA (aL d7 (aB 9) (bN (.int 0))) (aA (aB 10) aG))))) (a84 K A ex)
noncomputable def a86(K:Fg)(A:bD)(ex:aO->aX):bK :=
  aW (f9 10 (aL gK (bN (.int 1)) (aL jA (aL tE (aB 8) (bN (.int 6))) (bN (.int 100))))) (a85 K A ex)
noncomputable def a87(K:Fg)(A:bD)(ex:aO->aX):bK :=
  aW (f9 9 (gJ (aA (aL d7 (aB 2) (aL jA (aB 8) (bN (.int 3)))) (aA (aL d7 (aB 3) (aL jA (aL tE (aB 8) (bN (.int 3))) (bN (.int 2)))) aG)))) (a86 K A ex)
noncomputable def a88(K:Fg)(A:bD)(ex:aO->aX):bK :=
  aW (f9 8 (bB (bM K A) ex (aA (aB 0) (aA (aL gK (bN (.int 5)) (aB 7)) aG)))) (a87 K A ex)
noncomputable def al1(K:Fg)(A:bD)(ex:aO->aX):bK :=
  (dY (vA (aL (aaF ao) (eE A.aC "lying" (cB K A) [] ex (aB 5) aG) xC) (aL xR (eE A.aC "held" (cT K A) [] ex (aB 5) (aA (aL d7 (aB 2) (bN (.int 0))) aG)) (pL aG))))
noncomputable def al2(K:Fg)(A:bD)(ex:aO->aX):bK :=
  aW (vJ (a2D (aA (aL gK (bN (.int 1)) (aL jA (bB (bM K A) ex (aA (aB 0) (aA (bN (.int 4)) aG))) (bN (.int 6)))) aG)) (qN 7) (a88 K A ex)) (al1 K A ex)
noncomputable def al3(K:Fg)(A:bD)(ex:aO->aX):bK :=
  aW (f9 6 a5Q) (al2 K A ex)
noncomputable def al4(K:Fg)(A:bD)(ex:aO->aX):bK :=
  aW (f9 5 (a2I A.aC (cX K A) [.int 1000] ex (aA (aB 1) aG))) (al3 K A ex)
noncomputable def al5(K:Fg)(A:bD)(ex:aO->aX):bK :=
  aW (f9 4 (a2I A.aC (cX K A) [.int 1000] ex (aA (aB 1) aG))) (al4 K A ex)
noncomputable def al6(K:Fg)(A:bD)(ex:aO->aX):bK :=
  aW (f9 3 (pL (aA (aL jA (bB (bM K A) ex (aA (aB 0) (aA (bN (.int 2)) aG))) (bN (.int 1000))) (aA (aL jA (bB (bM K A) ex (aA (aB 0) (aA (bN (.int 3)) aG))) (bN (.int 1000))) aG)))) (al5 K A ex)
noncomputable def al7(K:Fg)(A:bD)(ex:aO->aX):bK :=
  aW (f9 2 (pL (aA (gJ (aA (bN (.int 0)) (aA (bN (.int 1)) aG))) (aA (gJ (aA (aL a6G (aL d7 (aB 1) (bN (.int 0))) (bN (.int 1))) (aA (bN (.int 1)) aG))) (aA (gJ (aA (aL a6G (aL d7 (aB 1) (bN (.int 0))) (bN (.int 1))) (aA (aL d7 (aB 1) (bN (.int 1))) aG))) aG))))) (al6 K A ex)
noncomputable def as5(K:Fg)(A:bD)(ex:aO->aX):bK :=
  aW (f9 1 (bB (nR K A) ex (aA (aB 0) (aA (bN (.int 0)) aG)))) (al7 K A ex)
noncomputable def acX(K:Fg)(A:bD):pH:=zL 15 1 λEX=>as5 K A (λ_=>EX)
noncomputable def afT:CB:=(.cons (.set 1 (.call 0 (.cons (.var 0) (.cons (.con (.int 0)) .nil)))) (.cons (.set 2 (.lst (.cons (.tup (.cons (.con (.int 0)) (.cons (.con (.int 1)) .nil))) (.cons (.tup (.cons (.bin .Sub (.ix (.var 1) (.con (.int 0))) (.con (.int 1))) (.cons (.con (.int 1)) .nil))) (.cons (.tup (.cons (.bin .Sub (.ix (.var 1) (.con (.int 0))) (.con (.int 1))) (.cons (.ix (.var 1) (.con (.int 1))) .nil))) .nil))))) (.cons (.set 3 (.lst (.cons (.bin .Mod (.call 1 (.cons (.var 0) (.cons (.con (.int 2)) .nil))) (.con (.int 1000))) (.cons (.bin .Mod (.call 1 (.cons (.var 0) (.cons (.con (.int 3)) .nil))) (.con (.int 1000))) .nil)))) (.cons (.set 4 (.call 2 (.cons (.var 1) .nil))) (.cons (.set 5 (.call 2 (.cons (.var 1) .nil))) (.cons (.set 6 .awB) (.cons (.af4 (.ahW (.bin .Add (.con (.int 1)) (.bin .Mod (.call 1 (.cons (.var 0) (.cons (.con (.int 4)) .nil))) (.con (.int 6))))) (.nm 7) (.cons (.set 8 (.call 1 (.cons (.var 0) (.cons (.bin .Add (.con (.int 5)) (.var 7)) .nil)))) (.cons (.set 9 (.tup (.cons (.ix (.var 2) (.bin .Mod (.var 8) (.con (.int 3)))) (.cons (.ix (.var 3) (.bin .Mod (.bin .FloorDiv (.var 8) (.con (.int 3))) (.con (.int 2)))) .nil)))) (.cons (.set 10 (.bin .Add (.con (.int 1)) (.bin .Mod (.bin .FloorDiv (.var 8) (.con (.int 6))) (.con (.int 100))))) (.cons (.expr (.jP 4 (.var 4) (.cons (.ix (.var 9) (.con (.int 1))) (.cons (.ix (.var 9) (.con (.int 0))) (.cons (.var 10) .nil))))) (.cons (.setM (.var 6) (.var 9) (.bin .Add (.ngt (.var 6) (.var 9) (.con (.int 0))) (.var 10))) (.cons (.set 11 (.jP 5 (.var 4) (.cons (.ix (.var 2) (.con (.int 0))) .nil))) (.cons (.set 12 (.jP 6 (.var 4) .nil)) (.cons (.ifs (.eqd ak (.call 7 (.cons (.var 4) (.cons (.var 2) (.cons (.var 3) .nil)))) (.call 8 (.cons (.var 6) (.cons (.var 2) (.cons (.var 3) .nil))))) (.cons (.ret (.con (.bl ao))) .nil) .nil) (.cons (.hid 14 "-" (.set 13 (.tup (.cons (.call 9 (.cons (.var 11) .nil)) (.cons (.call 11 (.cons (.thw 12 (.comp [ao,ao,ao,ao,ao,ao,ao,ao,ao,ao,ao,ao,ak,ao,ao] [ao,ao,ao,ao,ao,ao,ao,ao,ao,ao,ak,ao,ao,ao] (.keys (.var 12)) .none (.tup (.cons (.var 0) (.cons (.call 10 (.cons (.dix (.var 13) (.var 0)) .nil)) .nil))))) .nil)) .nil))))) (.cons (.expr (.jP 4 (.var 4) (.cons (.ix (.var 3) (.con (.int 0))) (.cons (.ix (.var 2) (.con (.int 0))) (.cons (.con (.int 1)) .nil))))) (.cons (.ifs (.nld (.tup (.cons (.var 11) (.cons (.var 12) .nil))) (.var 13)) (.cons (.ret (.con (.bl ao))) .nil) .nil) (.cons (.expr (.jP 12 (.var 4) (.cons (.ix (.var 3) (.con (.int 0))) (.cons (.ix (.var 2) (.con (.int 0))) (.cons (.con (.int 1)) .nil))))) (.cons (.expr (.meth .append (.var 11) (.cons (.tup (.cons (.con (.int 5)) (.cons (.con (.int 5)) .nil))) .nil))) (.cons (.awK (.keys (.var 12)) (.nm 14) (.cons (.ahZ (.dix (.var 12) (.var 14)) (.con (.int 5)) (.con (.int 7))) .nil)) (.cons (.ahZ (.var 12) (.tup (.cons (.con (.int 9)) (.cons (.con (.int 9)) .nil))) .dct) (.cons (.expr (.meth .append (.jP 13 (.var 4) (.cons (.ix (.var 3) (.con (.int 0))) .nil)) (.cons (.con (.int 1)) .nil))) (.cons (.ifs (.eqd ak (.call 7 (.cons (.var 4) (.cons (.var 2) (.cons (.var 3) .nil)))) (.call 8 (.cons (.var 6) (.cons (.var 2) (.cons (.var 3) .nil))))) (.cons (.ret (.con (.bl ao))) .nil) .nil) .nil)))))))))))))))))) (.cons (.ret (.amT (.cons (.deq ao (.jP 6 (.var 5) .nil) .amU) (.cons (.cmp .Eq (.jP 5 (.var 5) (.cons (.ix (.var 2) (.con (.int 0))) .nil)) (.lst .nil)) .nil)))) .nil))))))))
noncomputable def aJL(K:Fg)(A:bD):SI:=⟨["_law_script","_law_plan_here","_law_spots","_law_lots","_law_shelves","_law_beside","_law_model","_law_k","_law_cell","_law_pair","_law_amount","_law_held","_law_lying","_law_kept","_law_key"],[ak,ak,ak,ak,ak,ak,ak,ak,ak,ak,ak,ak,ak,ak,ak],[ak,ak,ak,ak,ak,ak,ak,ak,ak,ak,ak,ak,ao,ak,ak],[ao,ao,ao,ao,ao,ao,ao,ao,ao,ao,ao,ao,ak,ao,ao],[("_law_plan",.fn (nR K A) 2 ao),("_law_cell_at",.fn (bM K A) 2 ao),("Shelves",.kl A.aC (cX K A) [.int 1000]),("range",.bt "range"),("Shelves.put#3",.me A.aC "put" (eY K A) []),("Shelves.held#1",.me A.aC "held" (cT K A) []),("Shelves.lying#0",.me A.aC "lying" (cB K A) []),("_law_told",.fn (iD K A) 3 ao),("_law_due",.fn (jE K A) 3 ao),("list",.bt "list"),("dict",.bf .af2),("dict",.bf .aaO),("Shelves.take#3",.me A.aC "take" (dJ K A) []),("Shelves.places#1",.me A.aC "places" (cF K A) [])],[ak,ak,ak,ak,ao,ao,ao,ak,ak,ak,ao,ak,ao,ao],ak⟩
structure FnT(K:Fg)(mg:Str->Option aq)(x:Str)(st:qp)(f:bw)(d:kh)(ps:List Str):Prop where
 F:Fun K x x st f d
 B:Binds K d ps []
 m:mg x=aj (.ref f)
structure ExT(K:Fg)(mg:Str->Option aq)(x:Str)(c:bw):Prop where
 m:mg x=aj (.ref c)
 x:yg K c BMv "ValueError.__new__"=ak
 cs:(zq K c).isSome=ak
 ty:a1V K (.ref c)=aj (.type "type")
 be:a2g K (.ref c) (.type "BaseException")=aj ak
structure Txt(K:Fg)(mg:Str->Option aq)(A:bD):Prop where
 xP:FnT K mg "_wall" akZ A.al0 A.a5V ["k"]
 fJ:FnT K mg "is_whole" a7H A.a7M A.tO ["thing","least","most"]
 nY:FnT K mg "is_pair" aaY A.ab0 A.xK ["thing","aisles","first","last"]
 jF:FnT K mg "is_amount" a4A A.a4E A.pW ["thing"]
 nZ:FnT K mg "is_plan" aaZ A.ab1 A.xM ["thing"]
 gW:FnT K mg "need_plan" a4B A.a4F A.pX ["plan"]
 sH:FnT K mg "is_bin" afG A.afJ A.a0V ["plan","thing"]
 fK:FnT K mg "need_lot" a7I A.a7N A.tQ ["thing","lots"]
 dR:FnT K mg "need_bin" a7J A.a7O A.tR ["plan","thing"]
 d9:FnT K mg "need_amount" yS A.yV A.m8 ["thing"]
 oU:FnT K mg "change" afH A.afK A.a0W ["stacks","spot","lot","more"]
 lJ:FnT K mg "in_order" a7K A.a7P A.tU ["stacks"]
 zV:Fun K "__init__" "Shelves.__init__" dB A.bF A.fG
 aiJ:Binds K A.fG ["self","plan","room"] []
 aiK:Meth K A.aC "__init__" A.bF
 zW:∃t,Binds K A.fG ["self","plan","room"] [.int 1000 t]
 lK:Fun K "filled" "Shelves.filled" rK A.eF A.eG
 lM:Binds K A.eG ["self","spot"] []
 a3A:Meth K A.aC "filled" A.eF
 iJ:Fun K "need_room" "Shelves.need_room" nJ A.cV A.cW
 iK:Binds K A.cW ["self","spot","amount"] []
 xY:Meth K A.aC "need_room" A.cV
 qX:Fun K "put" "Shelves.put" yU A.iR A.iT
 qY:Binds K A.iT ["self","lot","spot","amount"] []
 a9H:Meth K A.aC "put" A.iR
 lO:Fun K "amount" "Shelves.amount" rM A.eO A.eU
 lQ:Binds K A.eU ["self","lot","spot"] []
 a3B:Meth K A.aC "amount" A.eO
 gY:Fun K "need_there" "Shelves.need_there" mL A.cL A.cM
 gZ:Binds K A.cM ["self","lot","spot","amount"] []
 wM:Meth K A.aC "need_there" A.cL
 oW:Fun K "take" "Shelves.take" vV A.gO A.gP
 oX:Binds K A.gP ["self","lot","spot","amount"] []
 a89:Meth K A.aC "take" A.gO
 n6:Fun K "shift" "Shelves.shift" uH A.fU A.fV
 uN:Binds K A.fV ["self","lot","one","other","amount"] []
 anM:Meth K A.aC "shift" A.fU
 oY:Fun K "held" "Shelves.held" vW A.gQ A.gR
 jT:Binds K A.gR ["self","spot"] []
 wO:Meth K A.aC "held" A.gQ
 lR:Fun K "places" "Shelves.places" rN A.eV A.eX
 iG:Binds K A.eX ["self","lot"] []
 sI:Meth K A.aC "places" A.eV
 n8:Fun K "lying" "Shelves.lying" uI A.fW A.fX
 j4:Binds K A.fX ["self"] []
 uO:Meth K A.aC "lying" A.fW
 dF:FnT K mg "_law_cell_at" vX A.vY A.jR ["_law_script","_law_k"]
 jG:FnT K mg "_law_plan" a4C A.a4G A.pY ["_law_script","_law_k"]
 jH:FnT K mg "_law_told" a4D A.a4H A.pZ ["_law_shelves","_law_spots","_law_lots"]
 lU:FnT K mg "_law_due" a7L A.a7Q A.tV ["_law_model","_law_spots","_law_lots"]
 aJM:FnT K mg "law" afI A.a7R A.azO ["_law_script"]
 aP:Cls K A.aC
 aiL:Mk K A.aC A.bF
 aiM:mg "Shelves"=aj (.ref A.aC)
 cQ:lA K A.aC "layout"
 uP:lA K A.aC "room"
 bO:lA K A.aC "stacks"
 nT:ExT K mg "DepotError" A.acW
 wQ:ExT K mg "NoPlan" A.a0X
 a1H:ExT K mg "NoBin" A.a5W
 a1I:ExT K mg "NoLot" A.a5X
 oZ:ExT K mg "NoAmount" A.tW
 wR:ExT K mg "NoRoom" A.vZ
 mW:ExT K mg "TooLittle" A.jD
 iU:∃t,mg "MOST_AISLES"=aj (.int 26 t)
 iV:∃t,mg "MOST_PLACES"=aj (.int 99 t)
 iW:∃t,mg "MOST_AMOUNT"=aj (.int 1000000 t)
 p8:∃t,mg "MOST_GAP"=aj (.int 20 t)
 fC:∃t,mg "MOST_LOTS"=aj (.int 1000 t)
 aEM:mg "bool"=bh
 acZ:mg "dict"=bh
 azP:mg "int"=bh
 u5:mg "isinstance"=bh
 al8:mg "len"=bh
 as6:mg "list"=bh
 axU:mg "range"=bh
 pA:mg "sorted"=bh
 aJN:mg "sum"=bh
 al9:mg "tuple"=bh
end Law
namespace Law
open PySem PySem.Spec PyProof.Rows L2 L4 L5 L6
local macro_rules| `(tactic| walk_at "wp")=>`(tactic| first|(simp(maxSteps:=2000000) (implicitDefEqProofs:=false) (disch:=first|rfl|decide|assumption|omega) only[L5.aJ4,L5.aDW,L5.aDX,L5.aJ5,L5.aJ6,L5.aJ7,L5.x_raise,L5.x_c,L5.aDY,L5.aDZ,L5.aN8,L5.aE0,L5.awY,L5.aN9,L5.aJ8,L5.aE1,L5.aE2,L5.aJ9,L5.aJA,L5.aE3,L5.aJB,L5.aJC,L5.aJD,L5.x_call,L5.aNA,L5.x_m,L5.aDR,L5.awX,L5.arB,L5.aJE,L5.aE5,L5.aE6,L5.ax9,L5.aE7,L5.x_lt,L5.aNB,L5.aNC,L5.ax0,L5.ax1,L5.ax2,L5.ax3,L5.ax4,L5.dM,L5.ax6,L5.ax7,L5.ax8,L5.aDS,L5.aDT,L5.aDU,L5.aDV,L5.af7,L5.acO,L5.a99,L5.ai2,L5.af8,L5.acP,L5.af9,L5.acQ,L5.a9A,L5.afA,L5.acR,L5.a9B,L5.afB,L5.acS,L5.a9C,L5.ai5,L5.arH,L5.amY,L5.ai6,L5.aJG,L5.aJH,L5.ai7,L5.amZ,L5.an0,L6.axA,L6.aJI,L6.aE9,L6.axB,L6.arJ,L6.aEA,L6.axC,L8.aJK,L8.aED,L8.axH,L8.axI,L8.aND,L8.axJ,L9.axK,L9.aEE,L15.aEI,L15.aaX,L15.aEJ,L15.aEK,L15.axP,L10.arT,L10.aEG,L7.aEB,L7.aEC,L7.aJJ,reduceIte,reduceCtorEq];try dsimp only[L5.ar7,L5.ar8,L5.ar9,L5.arA,L6.akT])|dsimp only[L5.ar7,L5.ar8,L5.ar9,L5.arA,L6.akT])
local macro_rules| `(tactic| exists $ls,*)=>`(tactic| (simp(implicitDefEqProofs:=false) only[$[$ls:term],*];repeat (first|(walk_at "wp")|(simp(implicitDefEqProofs:=false) only[$[$ls:term],*]))))
local macro_rules| `(tactic| walk_at "wr")=>`(tactic| repeat (walk_at "wp"))
variable{a b i l v lot more room am:Int}{ns:List Int}{n x:Nat}{p st sh m hd:bw}{F:cP}{ex:aO->aX}{s:Int×Int}{zs:List ((Int×Int)×List (Int×Int))}{o:GO}{N N2:List (List Key×bw)}
section
variable{K:Fg}{A:bD}{G:Gp}{R:fZ}{mg:Str->Option aq}
open L7 L8 L9 L10 L11 L15
noncomputable def isW(d:D)(a b:Int):Bool:=match d with
 |.int i=>decide (a<=i)&&decide (i<=b)
 |_=>ao
set_option tactic.hygienic true in
theorem j8(hd:kn G d)(h:R (.bl (isW d a b)) G):c7 K A [d,.int a,.int b] G R EX:=by
 refine⟨rfl,?_⟩;replace h:=bZ.here h;show tX K A _ _ [aj d,aj (.int a),aj (.int b)] G;cases d
 case ref q=>exists tX,ai3 hd;exact h
 case ty n=>simp[kn,tyD]at hd
 all_goals exists tX
 case int i =>
  by_cases c:a<=i
  .simp only[c,decide_true,if_true];simpa[isW,c]using h
  .simp only[c,decide_false,ou,if_false];simpa[isW,c]using h
 all_goals exact h
noncomputable def cellAt(ns:List Int)(k:Nat):Int:=if k<ns.length then ns.getD k 0 else if ns=[]then 0 else
 let m:=(ns.getD (k%ns.length) 0*48271+k*104729)%2147483647
 (m*m+48271*k)%2147483629
theorem a3C{a:bw}(hG:G a=aj (.rol (ns.map D.int))){k:Nat}(hk:k<1000)(h:R (.int (cellAt ns k)) G):bM K A [.ref a,.int (k:Int)] G R EX:=by
 refine⟨rfl,?_⟩;replace h:=bZ.here h;show oR K A _ _ [aj (.ref a),aj (.int k),bh] G;exists oR,akP (vR hG);by_cases c:k<ns.length
 .rw[if_pos (decide_eq_true (by omega))];have e:atI (ns.map D.int) (k:Int)=aj (.int (ns.getD k 0)):=by rw[a7D];simp[c,qz]
  rw[acN (vR hG) e];rw[show cellAt ns k=ns.getD k 0 by unfold cellAt;rw[if_pos c]]at h;exact h
 .rw[if_neg (by simp;omega)];exists sG;intro p hp;rw[a7E (vR (dX hG hp)) dM (by simp[aQ]) rfl];obtain⟨G0,l,h⟩:=h;by_cases hn:ns=[]
  .subst hn;rw[show cellAt [] k=0 by unfold cellAt;simp]at h;simp only[a2m,o8];walk_at "wr";exact⟨G0,l.trans (.new hp),h⟩
  .have e0:o8 (ns.map D.int) []=ao:=by cases ns with
    |nil=>exact absurd rfl hn
    |cons n r=>rfl
   have h0:0<(ns.length:Int):=by cases ns with
    |nil=>exact absurd rfl hn
    |cons n r=>simp
   simp only[e0];exists sE,akP (vR (dX hG hp));have hm:k%ns.length<ns.length:=Nat.mod_lt _ (by omega)
   have e2:atI (ns.map D.int) ((k:Int)%(ns.length:Int))=aj (.int (ns.getD (k%ns.length) 0)):=by
    rw[←Int.natCast_emod,a7D];simp[hm,qz]
   rw[acN (vR (dX hG hp)) e2];exists rZ;refine⟨G0,l.trans (.new hp),?_⟩
   have ec:cellAt ns k=((ns.getD (k%ns.length) 0*48271+(k:Int)*104729)%2147483647*((ns.getD (k%ns.length) 0*48271+(k:Int)*104729)%2147483647)+48271*(k:Int))%2147483629:=by
    unfold cellAt;rw[if_neg c,if_neg hn]
   rw[←ec];exact h
noncomputable def isP(d:D)(n a b:Int):Bool:=match d with
 |.tup [x,y]=>isW x 0 (n - 1)&&isW y a b
 |_=>ao
set_option tactic.hygienic true in
theorem an7{n:Int}(hd:kn G d)(hc:∀x y,d=.tup [x,y]->kn G x/\kn G y)(h:R (.bl (isP d n a b)) G):tY K A [d,.int n,.int a,.int b] G R EX:=by
 refine⟨rfl,?_⟩;replace h:=bZ.here h;show rO K A _ _ [aj d,aj (.int n),aj (.int a),aj (.int b)] G;cases d
 case ref q=>exists rO,a0S hd;exact h
 case ty n=>simp[kn,tyD]at hd
 case tup xs =>
  exists rO
  match xs,h,hc with
  |[],h,_=>exact h
  |[x],h,_=>exact h
  |x::y::z::r,h,_ =>
   have e:((((x::y::z::r).length:Nat):Int)==2)=ao:=by simp;omega
   simp only[e];exact h
  |[x,y],h,hc =>
   obtain⟨h1,h2⟩:=hc x y rfl;exists a4I;refine j8 h1 ?_;walk_at "wr";refine acT (λe=>j8 h2 ?_) λe=>?_
   .simpa[isP,e]using h
   .simpa[isP,e]using h
 all_goals exists rO
 all_goals exact h
theorem aEO{j n:Int}:isP (.tup [.int i,.int j]) n a b=(decide (0<=i)&&decide (i<=n - 1)&&(decide (a<=j)&&decide (j<=b))):=rfl
noncomputable def afU(d:D):Bool:=match d with
 |.tup [x,y,z]=>isW x 1 26&&(isW y 1 99&&isW z 1 20)
 |_=>ao
set_option tactic.hygienic true in
theorem an8(hd:kn G d)(hc:∀x y z,d=.tup [x,y,z]->kn G x/\kn G y/\kn G z)(h:R (.bl (afU d)) G):tZ K A [d] G R EX:=by
 refine⟨rfl,?_⟩;replace h:=bZ.here h;show rP K A _ _ [aj d] G;cases d
 case ref q=>exists rP,a0S hd;exact h
 case ty n=>simp[kn,tyD]at hd
 case tup xs =>
  exists rP
  match xs,h,hc with
  |[],h,_=>exact h
  |[x],h,_=>exact h
  |[x,y],h,_=>exact h
  |x::y::z::w::r,h,_ =>
   have e:((((x::y::z::w::r).length:Nat):Int)==3)=ao:=by simp;omega
   simp only[e];exact h
  |[x,y,z],h,hc =>
   obtain⟨h1,h2,h3⟩:=hc x y z rfl;exists a4K;refine j8 h1 ?_;walk_at "wr";refine am6 (λe=>?_) λe=>?_
   .simpa[afU,e]using h
   .have e:isW x 1 26=ak:=by simpa using e
    refine j8 h2 ?_;walk_at "wr";refine am6 (λe2=>?_) λe2=>?_
    .simpa[afU,e2]using h
    .have e2:isW y 1 99=ak:=by simpa using e2
     exists a4J;refine j8 h3 ?_;simpa[afU,e,e2]using h
 all_goals exists rP
 all_goals exact h
theorem afV(hd:kn G d)(hc:∀x y z,d=.tup [x,y,z]->kn G x/\kn G y/\kn G z)(h0:afU d=ao->EX A.a0X G)(h1:afU d=ak->R .non G):fH K A [d] G R EX:=by
 refine⟨rfl,?_⟩;show wA K A _ _ [aj d] G;exists wA;refine an8 hd hc ?_;walk_at "wr";exact am6 (λe=>vQ.here (h0 e)) λe=>bZ.here (h1 (by simpa using e))
noncomputable def plD(x y g:Nat):D:=.tup [.int x,.int y,.int g]
structure OkP(x y g:Nat):Prop where
 x0:1<=x
 x1:x<=26
 y0:1<=y
 y1:y<=99
 g0:1<=g
 g1:g<=20
theorem axV{y g:Nat}(o:OkP x y g):afU (plD x y g)=ak:=by
 obtain⟨_,_,_,_,_,_⟩:=o;simp[afU,plD,isW];omega
theorem ab2{y g:Nat}(o:OkP x y g)(h:R .non G):fH K A [plD x y g] G R EX :=
 afV arE (λa b c e=>by cases e;exact⟨rfl,rfl,rfl⟩) (λe=>by rw[axV o]at e;cases e) λ_=>h
theorem aiN(hd:kn G d)(h0:isW d 0 999=ao->EX A.a5X G)(h1:isW d 0 999=ak->R .non G):cN K A [d,.int 1000] G R EX:=by
 refine⟨rfl,?_⟩;show zM K A _ _ [aj d,aj (.int 1000)] G;exists zM;refine j8 hd ?_;walk_at "wr";exact am6 (λe=>vQ.here (h0 e)) λe=>bZ.here (h1 (by simpa using e))
theorem afX(hd:kn G d)(h:R (.bl (isW d 1 1000000)) G):nQ K A [d] G R EX:=by
 refine⟨rfl,?_⟩;show w5 K A _ _ [aj d] G;exists w5;exact j8 hd (bZ.here h)
theorem a9I(hd:kn G d)(h0:isW d 1 1000000=ao->EX A.tW G)(h1:isW d 1 1000000=ak->R .non G):cD K A [d] G R EX:=by
 refine⟨rfl,?_⟩;show qR K A _ _ [aj d] G;exists qR;refine afX hd ?_;walk_at "wr";exact am6 (λe=>vQ.here (h0 e)) λe=>bZ.here (h1 (by simpa using e))
theorem as7{y g:Nat}(o:OkP x y g)(hd:kn G d)(hc:∀x y,d=.tup [x,y]->kn G x/\kn G y)(h:R (.bl (isP d x 1 y)) G):xO K A [plD x y g,d] G R EX:=by
 refine⟨rfl,?_⟩;show a7U K A _ _ [aj (plD x y g),aj d] G;exists a7U;refine ab2 o ?_;unfold plD;exists a7T;exact an7 hd hc (bZ.here h)
theorem aiO{y g:Nat}(o:OkP x y g)(hd:kn G d)(hc:∀x y,d=.tup [x,y]->kn G x/\kn G y)(h0:isP d x 1 y=ao->EX A.a5W G)(h1:isP d x 1 y=ak->R .non G):cA K A [plD x y g,d] G R EX:=by
 refine⟨rfl,?_⟩;show zN K A _ _ [aj (plD x y g),aj d] G;exists zN;refine as7 o hd hc ?_;walk_at "wr";exact am6 (λe=>vQ.here (h0 e)) λe=>bZ.here (h1 (by simpa using e))
structure OkB(x y:Nat)(a p:Int):Prop where
 a0:0<=a
 a1:a<x
 p0:1<=p
 p1:p<=y
theorem a1J(hl:0<=l/\l<=999)(h:R .non G):cN K A [.int l,.int 1000] G R EX:=aiN rfl (λe=>by simp[isW]at e;omega) λ_=>h
theorem a8A(hl:1<=l/\l<=1000000)(h:R .non G):cD K A [.int l] G R EX:=a9I rfl (λe=>by simp[isW]at e;omega) λ_=>h
theorem wU{y g:Nat}(o:OkP x y g){p:Int}(b:OkB x y a p)(h:R .non G):cA K A [plD x y g,.tup [.int a,.int p]] G R EX:=by
 obtain⟨b1,b2,b3,b4⟩:=b;refine aiO o arE (λx y e=>by cases e;exact⟨rfl,rfl⟩) (λe=>?_) λ_=>h;rw[aEO]at e;simp at e;omega
theorem a1K{i v:Int}:∀{ps:List (Int×Int)},(aJ ps i).isSome=ak->aJ (ps.map λkv=>if kv.1=i then(kv.1,v)else kv) i=aj v
 |[],h=>by cases h
 |z::ps,h=>by
  rw[iy];by_cases c:z.1=i
  .rw[if_pos c];unfold aJ;rw[if_pos c]
  .rw[if_neg c];unfold aJ at h ⊢;rw[if_neg c]at h ⊢;exact a1K h
theorem ab3{i v:Int}:∀{ps:List (Int×Int)},aJ ps i=bh->aJ (ps++[(i,v)]) i=aj v
 |[],_=>by show(if i=i then aj v else bh)=_;rw[if_pos rfl]
 |z::ps,h=>by
  rw[a2h];unfold aJ at h ⊢;by_cases c:z.1=i
  .rw[if_pos c]at h;cases h
  .rw[if_neg c]at h ⊢;exact ab3 h
set_option tactic.hygienic true in
theorem a8B:aJ (bQ ps i v) i=aj v:=by
 unfold bQ;split
 ·rename_i h;exact a1K h
 .rename_i h;exact ab3 (by simpa using h)
theorem axW{ps:List (Int×Int)}:(bQ ps i v).length<=ps.length+1:=by
 unfold bQ;split
 ·rw[dj];omega
 .rw[uc];exact dz _
theorem as8:bQ ps i v≠[]:=λe=>by
 have:=a8B (ps:=ps) (i:=i) (v:=v);rw[e]at this;cases this
theorem afY{p:Int}{ps:List (Int×Int)}(he:G e=aj (.bC ao (ps.map jJ)))(hl:ps.length<1000)
  (h1:(aJ ps lot).getD 0+more≠0->∀G',G' e=aj (.bC ao ((bQ ps lot ((aJ ps lot).getD 0+more)).map jJ))->(∀q u,q≠e->G q=aj u->G' q=aj u)->F.nx [aj (.ref st),aj (.tup [.int a,.int p]),aj (.int lot),aj (.int more),aj (.ref e)] G')
  (h2:(aJ ps lot).getD 0+more=0->∀G',G' e=aj (.bC ao ((bJ (bQ ps lot 0) lot).map jJ))->(∀q u,q≠e->G q=aj u->G' q=aj u)->u0 K A ex F [aj (.ref st),aj (.tup [.int a,.int p]),aj (.int lot),aj (.int more),aj (.ref e)] G') :
  zO K A ex F [aj (.ref st),aj (.tup [.int a,.int p]),aj (.int lot),aj (.int more),aj (.ref e)] G:=by
 have big:10000<cu:=by decide
 exists zO,iQ he;rw[mJ he mK rfl]
 have eg:(aJ (ps.map jJ) (.inl (.inl lot))).getD (.int 0)=.int ((aJ ps lot).getD 0):=by
  rw[pU];cases aJ ps lot<;>rfl
 rw[eg];generalize hv:(aJ ps lot).getD 0+more=v at h1 h2;walk_at "wr";rw[hv,a5U he mK rfl (by rw[dj];omega),akX];generalize hG1:aH G e _=G1;have e1:G1 e=aj (.bC ao ((bQ ps lot v).map jJ)):=by rw[←hG1,aD]
 have k1:∀q u,q≠e->G q=aj u->G1 q=aj u:=λq u n z=>by rw[←hG1,aN n];exact z
 have lp:=axW (ps:=ps) (i:=lot) (v:=v);exists a7V,iQ e1;rw[xJ e1 mK rfl (by rw[pU,a8B];rfl)];walk_at "wr";by_cases c:v=0
 .rw[if_pos (by rw[c];rfl)];rw[akY e1 mK rfl (by rw[pU,a8B];rfl),arQ];refine⟨by rw[iQ e1];trivial,?_⟩;refine h2 c (aH G1 e (.bC ao ((bJ (bQ ps lot v) lot).map jJ))) (by rw[aD,c]) λq u n z=>?_;rw[aN n];exact k1 q u n z
 .rw[if_neg (by simpa using c)];exists u0;rw[akW e1];walk_at "wr";rw[if_neg]
  .exact h1 c G1 e1 k1
  .simpa using as8 (ps:=ps) (i:=lot) (v:=v)
theorem ad0{M:List (List Key×bw)}{p:Int}(hs:G st=aj (.bC ak (M.map kY)))(hl:M.length<1000)(hk:aJ M (ky a p)=bh)(hm:more≠0)
  (h:∀e G',G e=bh->G' st=aj (.bC ak ((M++[(ky a p,e)]).map kY))->G' e=aj (.bC ao ([(lot,more)].map jJ))->(∀q u,q≠st->G q=aj u->G' q=aj u)->R .non G'):fY K A [.ref st,.tup [.int a,.int p],.int lot,.int more] G R EX:=by
 have big:10000<cu:=by decide
 refine⟨rfl,?_⟩;have h':∀e G',G e=bh->G' st=aj (.bC ak ((M++[(ky a p,e)]).map kY))->G' e=aj (.bC ao ([(lot,more)].map jJ))->(∀q u,q≠st->G q=aj u->G' q=aj u)->bZ R .non G':=λe G' a b c d=>bZ.here (h e G' a b c d);clear h;show wB K A _ _ [aj (.ref st),aj (.tup [.int a,.int p]),aj (.int lot),aj (.int more),bh] G;exists wB,iQ hs;intro e he;have ne:e≠st:=λz=>by rw[z,hs]at he;cases he
 have hs1:aH G e (.bC ao []) st=aj (.bC ak (M.map kY)):=dX hs he;rw[axL hs1 iZ rfl (by rw[dj];omega) (by rw[jQ,hk];rfl)];generalize hG1:aH (aH G e (.bC ao [])) st _=G1;have e1:G1 e=aj (.bC ao (([]:List (Int×Int)).map jJ)):=by rw[←hG1,aN ne,aD];rfl
 have s1:G1 st=aj (.bC ak ((M++[(ky a p,e)]).map kY)):=by rw[←hG1,aD,mz];rfl
 have k1:∀q u,q≠st->G q=aj u->G1 q=aj u:=λq u n z=>by
  rw[←hG1,aN n];exact dX z he
 refine afY e1 (by simp) (λ_ G2 e2 k2=>?_) λz=>?_
 .refine h' e G2 he (k2 _ _ (Ne.symm ne) s1) (by rw[e2];show aj (GO.bC ao ([(lot,0+more)].map jJ))=_;rw[Int.zero_add]) λq u n z=>k2 q u (λw=>by rw[w,he]at z;cases z) (k1 q u n z)
 .exact absurd z (by show(0:Int)+more≠0;rw[Int.zero_add];exact hm)
theorem a1L{M:List (List Key×bw)}{ps:List (Int×Int)}{p:Int}(hs:G st=aj (.bC ak (M.map kY)))(hl:M.length<1000)(hk:aJ M (ky a p)=aj d)(hd:G d=aj (.bC ao (ps.map jJ)))(hp:ps.length<1000)
  (h1:(aJ ps lot).getD 0+more≠0->∀G',G' d=aj (.bC ao ((bQ ps lot ((aJ ps lot).getD 0+more)).map jJ))->(∀q u,q≠d->G q=aj u->G' q=aj u)->R .non G')
  (h2:(aJ ps lot).getD 0+more=0->bJ (bQ ps lot 0) lot=[]->∀G',G' st=aj (.bC ak ((bJ M (ky a p)).map kY))->(∀q u,q≠d->q≠st->G q=aj u->G' q=aj u)->R .non G')
  (h3:(aJ ps lot).getD 0+more=0->bJ (bQ ps lot 0) lot≠[]->∀G',G' d=aj (.bC ao ((bJ (bQ ps lot 0) lot).map jJ))->(∀q u,q≠d->G q=aj u->G' q=aj u)->R .non G'):fY K A [.ref st,.tup [.int a,.int p],.int lot,.int more] G R EX:=by
 have big:10000<cu:=by decide
 refine⟨rfl,?_⟩;show wB K A _ _ [aj (.ref st),aj (.tup [.int a,.int p]),aj (.int lot),aj (.int more),bh] G;exists wB,iQ hs;intro e he;have ne:st≠d:=λz=>by rw[z,hd]at hs;cases hs
 have hs1:aH G e (.bC ao []) st=aj (.bC ak (M.map kY)):=dX hs he;have hd1:aH G e (.bC ao []) d=aj (.bC ao (ps.map jJ)):=dX hd he;rw[axM hs1 iZ rfl (by rw[dj];omega) (by rw[jQ,hk];rfl)];refine afY hd1 hp (λc G2 e2 k2=>bZ.here (h1 c G2 e2 λq u n z=>k2 q u n (dX z he))) λc G2 e2 k2=>?_;exists u0;rw[akW e2];walk_at "wr";by_cases c2:bJ (bQ ps lot 0) lot=[]
 .rw[c2,if_pos (by simp)];have s2:=k2 _ _ ne hs1;exists iQ s2;rw[akY s2 iZ rfl (by rw[jQ,hk];rfl),arR];refine bZ.here (h2 c c2 _ aD λq u n n2 z=>?_);rw[aN n2];exact k2 q u n (dX z he)
 .rw[if_neg]
  .exact bZ.here (h3 c c2 G2 e2 λq u n z=>k2 q u n (dX z he))
  .have:=List.length_pos_iff.mpr c2;simp;omega
noncomputable abbrev shG(A:bD)(x y g:Nat)(room:Int)(st:bw):GO:=.ins A.aC [("layout",plD x y g),("room",.int room),("stacks",.ref st)]
noncomputable def amt(M:List (List Key×bw))(c:bw->List (Int×Int))(k:List Key)(lot:Int):Int:=match aJ M k with
 |some d=>(aJ (c d) lot).getD 0
 |none=>0
noncomputable def cI(M:List (List Key×bw))(c:bw->List (Int×Int))(k:List Key):List (Int×Int):=match aJ M k with
 |some d=>c d
 |none=>[]
structure SH(A:bD)(sh:bw)(x y g:Nat)(room:Int)(st:bw)(M:List (List Key×bw))(c:bw->List (Int×Int))(G:Gp):Prop where
 o:OkP x y g
 sh:G sh=aj (shG A x y g room st)
 st:G st=aj (.bC ak (M.map kY))
 ins:∀z∈M,G z.2=aj (.bC ao ((c z.2).map jJ))
theorem SH.le{y g:Nat}(s:SH A sh x y g room st M c G)(l:Le G G'):SH A sh x y g room st M c G':=⟨s.o,l _ _ s.sh,l _ _ s.st,λz hz=>l _ _ (s.ins z hz)⟩
theorem SH.get{F:D->Gp->Prop}{y g:Nat}(s:SH A sh x y g room st M c G){p:Int}(h:∀d G',Le G G'->G' d=aj (.bC ao ((cI M c (ky a p)).map jJ))->F (.ref d) G'):∀e,G e=bh->rF (.ref st) (.tup [.int a,.int p]) (aH G e (.bC ao [])) λ_ _ kvs k=>F ((aJ kvs k).getD (.ref e)) (aH G e (.bC ao [])):=by
 intro e he;have l:Le G (aH G e (.bC ao [])):=.new he;rw[mJ (l _ _ s.st) iZ rfl,jQ];unfold cI at h;cases hv:aJ M (ky a p)with
 |none=>rw[hv]at h;exact h e _ l aD
 |some d=>rw[hv]at h;exact h d _ l (l _ _ (s.ins _ (a74 hv)))
theorem as9{y g:Nat}(s:SH A sh x y g room st M c G){p:Int}(hl:0<=lot/\lot<=999)(b:OkB x y a p)(h:∀G',Le G G'->R (.int ((aJ (cI M c (ky a p)) lot).getD 0)) G'):gC K A [.ref sh,.int lot,.tup [.int a,.int p]] G R EX:=by
 refine⟨rfl,?_⟩;have h':∀G',Le G G'->bZ R (.int ((aJ (cI M c (ky a p)) lot).getD 0)) G':=λG' l=>bZ.here (h G' l);clear h;show lG K A _ _ [aj (.ref sh),aj (.int lot),aj (.tup [.int a,.int p])] G;exists lG;refine a1J hl ?_;exists oK;rw[j6 s.sh rfl];walk_at "wr";refine wU s.o b ?_;exists oJ;rw[j6 s.sh rfl];exists iQ s.st;refine s.get (F:=λd G'=>qP d G'/\rF d (.int lot) G' λ_ _ kvs k=>bZ R ((aJ kvs k).getD (.int 0)) G') λd G1 l e1=>⟨by rw[iQ e1];trivial,?_⟩;rw[mJ e1 mK rfl,pU];have eg:((aJ (cI M c (ky a p)) lot).map D.int).getD (.int 0)=.int ((aJ (cI M c (ky a p)) lot).getD 0):=by cases aJ (cI M c (ky a p)) lot<;>rfl
 rw[eg];exact h' G1 l
theorem asA{y g:Nat}(s:SH A sh x y g room st M c G){p:Int}(b:OkB x y a p)(h:∀G',Le G G'->R (.int ((cI M c (ky a p)).map (·.2)).sum) G'):gB K A [.ref sh,.tup [.int a,.int p]] G R EX:=by
 refine⟨rfl,?_⟩;have h':∀G',Le G G'->bZ R (.int ((cI M c (ky a p)).map (·.2)).sum) G':=λG' l=>bZ.here (h G' l);clear h;show lF K A _ _ [aj (.ref sh),aj (.tup [.int a,.int p])] G;exists lF;rw[j6 s.sh rfl];walk_at "wr";refine wU s.o b ?_;exists oH;rw[j6 s.sh rfl];exists iQ s.st;refine s.get (F:=λd G'=>vO d G' (bZ R)) λd G1 l e1=>?_;exact axN e1 (h' G1 l)
theorem afZ{y g:Nat}(s:SH A sh x y g room st M c G){p:Int}(b:OkB x y a p)(h0:room<((cI M c (ky a p)).map (·.2)).sum+am->EX A.vZ G)(h1:((cI M c (ky a p)).map (·.2)).sum+am<=room->∀G',Le G G'->R .non G'):dN K A [.ref sh,.tup [.int a,.int p],.int am] G R EX:=by
 refine⟨rfl,?_⟩;show iI K A _ _ [aj (.ref sh),aj (.tup [.int a,.int p]),aj (.int am)] G;exists iI,dU s.sh (m:="filled") rfl;refine asA s b λG1 l=>?_;generalize ((cI M c (ky a p)).map (·.2)).sum=f at *;walk_at "wr";rw[j6 (l _ _ s.sh) rfl];walk_at "wr";refine acT (λe=>?_) λe=>?_
 .exact⟨G,l,h0 (by simpa using e)⟩
 .exact bZ.here (h1 (by simpa using e) G1 l)
theorem ad1{y g:Nat}(s:SH A sh x y g room st M c G){p:Int}(hl:0<=lot/\lot<=999)(b:OkB x y a p)(h0:(aJ (cI M c (ky a p)) lot).getD 0<am->EX A.jD G)(h1:am<=(aJ (cI M c (ky a p)) lot).getD 0->∀G',Le G G'->R .non G'):dH K A [.ref sh,.int lot,.tup [.int a,.int p],.int am] G R EX:=by
 refine⟨rfl,?_⟩;show gU K A _ _ [aj (.ref sh),aj (.int lot),aj (.tup [.int a,.int p]),aj (.int am)] G;exists gU,dU s.sh (m:="amount") rfl;refine as9 s hl b λG1 l=>?_;generalize (aJ (cI M c (ky a p)) lot).getD 0=f at *;walk_at "wr";refine acT (λe=>?_) λe=>?_
 .exact⟨G,l,h0 (by simpa using e)⟩
 .exact bZ.here (h1 (by simpa using e) G1 l)
theorem aJO{y g:Nat}(s:SH A sh x y g room st M c G){p:Int}(hl:0<=lot/\lot<=999)(b:OkB x y a p)(ha:1<=am/\am<=1000000)(h0:room<((cI M c (ky a p)).map (·.2)).sum+am->EX A.vZ G)
  (h1:((cI M c (ky a p)).map (·.2)).sum+am<=room->∀(G1:Gp)(R':fZ)(EX':aX),Le G G1->(∀G2,R .non G2->R' .non G2)->fY K A [.ref st,.tup [.int a,.int p],.int lot,.int am] G1 R' EX'):eY K A [.ref sh,.int lot,.tup [.int a,.int p],.int am] G R EX:=by
 refine⟨rfl,?_⟩;show qT K A _ _ [aj (.ref sh),aj (.int lot),aj (.tup [.int a,.int p]),aj (.int am)] G;exists qT;refine a1J hl ?_;exists uM;rw[j6 s.sh rfl];walk_at "wr";refine wU s.o b ?_;exists uL;refine a8A ha ?_;exists uK,dU s.sh (m:="need_room") rfl;refine afZ s b (λe=>vQ.here (h0 e)) λe G1 l=>?_;exists uJ;rw[j6 (l _ _ s.sh) rfl];walk_at "wr";exact h1 e G1 _ _ l λG2 z=>bZ.here z
theorem asB{y g:Nat}(s:SH A sh x y g room st M c G){p:Int}(hl:0<=lot/\lot<=999)(b:OkB x y a p)(ha:1<=am/\am<=1000000)(h0:(aJ (cI M c (ky a p)) lot).getD 0<am->EX A.jD G)
  (h1:am<=(aJ (cI M c (ky a p)) lot).getD 0->∀(G1:Gp)(R':fZ)(EX':aX),Le G G1->(∀G2,R .non G2->R' .non G2)->fY K A [.ref st,.tup [.int a,.int p],.int lot,.int (-am)] G1 R' EX'):dJ K A [.ref sh,.int lot,.tup [.int a,.int p],.int am] G R EX:=by
 refine⟨rfl,?_⟩;show oM K A _ _ [aj (.ref sh),aj (.int lot),aj (.tup [.int a,.int p]),aj (.int am)] G;exists oM;refine a1J hl ?_;exists rW;rw[j6 s.sh rfl];walk_at "wr";refine wU s.o b ?_;exists rT;refine a8A ha ?_;exists rR,dU s.sh (m:="need_there") rfl;refine ad1 s hl b (λe=>vQ.here (h0 e)) λe G1 l=>?_;exists rQ;rw[j6 (l _ _ s.sh) rfl];walk_at "wr";exact h1 e G1 _ _ l λG2 z=>bZ.here z
noncomputable abbrev cn(lot v:Int):bw->List (Int×Int):=λ_=>[(lot,v)]
theorem a1M{κ α:Type}[DecidableEq κ]{k:κ}{v:α}:aJ [(k,v)] k=aj v:=by
 unfold aJ;rw[if_pos rfl]
theorem alB{w:Int}:bQ [(i,v)] i w=[(i,w)]:=by simp[bQ,aJ]
theorem drop_one{κ α:Type}[DecidableEq κ]{i:κ}{v:α}:bJ [(i,v)] i=[]:=by simp[bJ]
theorem aJP{k:List Key}:cI [(k,d)] c k=c d:=by
 unfold cI;rw[a1M]
theorem aNE{y g:Nat}{p:Int}(s:SH A sh x y g room st [(ky a p,d)] (cn lot v) G)(hl:0<=lot/\lot<=999)(b:OkB x y a p)(ha:1<=am/\am<=1000000)(h0:v<am->EX A.jD G)
  (h1:am<v->∀G',SH A sh x y g room st [(ky a p,d)] (cn lot (v - am)) G'->(∀q u,q≠d->G q=aj u->G' q=aj u)->R .non G')
  (h2:am=v->∀G',SH A sh x y g room st [] (cn lot v) G'->(∀q u,q≠d->q≠st->G q=aj u->G' q=aj u)->R .non G'):dJ K A [.ref sh,.int lot,.tup [.int a,.int p],.int am] G R EX:=by
 have hd:=s.ins _ (qe.mpr rfl);have ne:sh≠d:=λz=>by have:=s.sh;rw[z,hd]at this;cases this
 have ne2:st≠d:=λz=>by have:=s.st;rw[z,hd]at this;cases this
 have ne3:sh≠st:=λz=>by have:=s.sh;rw[z,s.st]at this;cases this
 have ea:(aJ (cI [(ky a p,d)] (cn lot v) (ky a p)) lot).getD 0=v:=by rw[aJP,a1M];rfl
 refine asB s hl b ha (λe=>h0 (by rw[ea]at e;exact e)) λe G1 R' EX' l hR=>?_;rw[ea]at e;have en:(aJ [(lot,v)] lot).getD 0+-am=v - am:=by rw[a1M];show v+-am=_;omega
 refine a1L (l _ _ s.st) (by simp) a1M (l _ _ hd) (by simp) (λz G2 d2 k2=>?_) (λz zd G2 s2 k2=>?_) (λz zd=>?_)
 .rw[en]at z d2;refine hR _ (h1 (by omega) G2 ⟨s.o,k2 _ _ ne (l _ _ s.sh),k2 _ _ ne2 (l _ _ s.st),λz hz=>?_⟩ λq u n z=>k2 q u n (l _ _ z));cases qe.mp hz;rw[d2];rw[show bQ (cn lot v (ky a p,d).2) lot (v - am)=[(lot,v - am)]from alB]
 .rw[en]at z;refine hR _ (h2 (by omega) G2 ⟨s.o,k2 _ _ ne ne3 (l _ _ s.sh),?_,λz hz=>nomatch hz⟩ λq u n n2 z=>k2 q u n n2 (l _ _ z));rw[s2,drop_one]
 .refine absurd ?_ zd;rw[show bQ (cn lot v (ky a p,d).2) lot 0=[(lot,0)]from alB];exact drop_one
noncomputable def cH(ps:List (Int×Int))(l:Int):Int:=(aJ ps l).getD 0
noncomputable def nU(ps:List (Int×Int)):Int:=(ps.map (·.2)).sum
theorem pB:cH [] l=0:=rfl
theorem cJ{q:Int×Int}:cH (q::ps) l=if q.1=l then q.2 else cH ps l:=by
 unfold cH;rw[aJ];split<;>rfl
theorem mX{q:Int×Int}:nU (q::ps)=q.2+nU ps:=by simp[nU]
theorem axX:nU (ps++qs)=nU ps+nU qs:=by simp[nU]
theorem jU{κ α:Type}[DecidableEq κ]{k:κ}:∀{l:List (κ×α)},aJ l k=bh↔k∉l.map (·.1)
 |[]=>by simp[aJ]
 |z::r=>by
  rw[aJ];by_cases c:z.1=k
  .simp[c]
  .have:¬ k=z.1:=λe=>c e.symm;simp[c,this,jU (l:=r)]
theorem fL{κ α:Type}[DecidableEq κ]{z:κ×α}:∀{l:List (κ×α)},(l.map (·.1)).Nodup->z∈l->aJ l z.1=aj z.2
 |[],_,h=>by cases h
 |y::r,nd,h=>by
  rw[iy,qy]at nd;rw[aJ];rcases je.mp h with e|h
  .rw[if_pos (by rw[e]),e]
  .rw[if_neg (λc=>nd.1 (by rw[c];exact dw.mpr ⟨z,h,rfl⟩))];exact fL nd.2 h
set_option tactic.hygienic true in
theorem j5{κ α:Type}[DecidableEq κ]{k:κ}{v:α}:∀{l:List (κ×α)},aJ l k=aj v->(k,v)∈l
 |[],h=>by cases h
 |z::r,h=>by
  rw[aJ]at h;split at h
  .rename_i c;cases h;rw[←c];exact .head _
  .exact jq _ (j5 h)
theorem map_put{ps:List (Int×Int)}{w:Int}(nd:(ps.map (·.1)).Nodup):(∀l',cH (ps.map λkv=>if kv.1=l then(kv.1,w)else kv) l'=if l'=l/\l∈ps.map (·.1)then w else cH ps l')/\nU (ps.map λkv=>if kv.1=l then(kv.1,w)else kv)=nU ps+(if l∈ps.map (·.1)then w - cH ps l else 0):=by
 induction ps with
 |nil=>exact⟨λl'=>by simp[pB],by simp[nU]⟩
 |cons q r ih =>
  rw[iy,qy]at nd;obtain⟨i1,i2⟩:=ih nd.2;by_cases c:q.1=l
  .have nl:l∉r.map (·.1):=c ▸ nd.1
   have er:(r.map λkv=>if kv.1=l then(kv.1,w)else kv)=r:=by
    conv=>rhs;rw[←List.map_id r]
    refine um λz hz=>?_;rw[if_neg (λe=>nl (by rw[←e];exact dw.mpr ⟨z,hz,rfl⟩))];rfl
   refine⟨λl'=>?_,?_⟩
   .rw[iy,er,cJ,cJ,if_pos c];by_cases e:l'=l
    .subst e;simp[c]
    .have:¬ l=l':=λz=>e z.symm;simp[c,e,this]
   .rw[iy,er,mX,mX,if_pos c,cJ,if_pos c];simp[c];omega
  .refine⟨λl'=>?_,?_⟩
   .rw[iy,if_neg c,cJ,cJ,i1];by_cases e:q.1=l'
    .subst e;simp[c]
    .have:¬ l=q.1:=λz=>c z.symm;rw[if_neg e,if_neg e];simp only[iy,je,this,false_or]
   .rw[iy,if_neg c,mX,mX,i2,cJ,if_neg c];have:¬ l=q.1:=λz=>c z.symm;simp only[iy,je,this,false_or];omega
theorem ag0{ps:List (Int×Int)}(h:l∉ps.map (·.1)):cH ps l=0:=by unfold cH;rw[jU.mpr h];rfl
set_option tactic.hygienic true in
theorem ad2{ps:List (Int×Int)}{w:Int}(nd:(ps.map (·.1)).Nodup):(∀l',cH (bQ ps l w) l'=if l'=l then w else cH ps l')/\nU (bQ ps l w)=nU ps+w - cH ps l/\((bQ ps l w).map (·.1)).Nodup/\(∀q∈bQ ps l w,q∈ps∨q=(l,w))/\(bQ ps l w).length<=ps.length+1:=by
 have key:(aJ ps l).isSome=ak↔l∈ps.map (·.1):=by
  cases q:aJ ps l with
  |none=>simp only[Option.isSome_none,ou,false_iff];exact jU.mp q
  |some v=>simp only[Option.isSome_some,true_iff];exact dw.mpr ⟨_,j5 q,rfl⟩
 unfold bQ;split
 ·rename_i h;have hm:=key.mp h;obtain⟨m1,m2⟩:=map_put (w:=w) (l:=l) nd;refine⟨λl'=>by rw[m1];simp only[hm,and_true],by rw[m2,if_pos hm];omega,?_,λq hq=>?_,by simp⟩
  .have:(ps.map λkv=>if kv.1=l then(kv.1,w)else kv).map (·.1)=ps.map (·.1):=by
    rw[jt];refine um λz _=>?_;simp only[Function.comp];split<;>rfl
   rw[this];exact nd
  .obtain⟨z,hz,rfl⟩:=dw.mp hq;split
   ·rename_i c;exact .inr (by rw[c])
   .exact .inl hz
 .rename_i h;have hm:l∉ps.map (·.1):=λz=>h (key.mpr z);refine⟨λl'=>?_,by rw[axX,ag0 hm];simp[nU],?_,λq hq=>?_,by simp⟩
  .have:∀qs:List (Int×Int),l∉qs.map (·.1)->cH (qs++[(l,w)]) l'=if l'=l then w else cH qs l':=by
    intro qs
    induction qs with
    |nil =>
     intro _;rw[List.nil_append,cJ];by_cases e:l'=l
     .subst e;simp
     .have:¬ l=l':=λz=>e z.symm;simp[e,this]
    |cons q r ih =>
     intro hn;simp only[iy,je,not_or]at hn;rw[a2h,cJ,cJ,ih hn.2];by_cases e:q.1=l'
     .subst e;have:¬ q.1=l:=λz=>hn.1 z.symm;simp[this]
     .simp[e]
   exact this ps hm
  .rw[mz,uq];refine⟨nd,by simp,λa ha b hb e=>?_⟩;simp at hb;exact hm (by rw[←hb,←e];exact ha)
  .rcases ug.mp hq with hq|hq
   .exact .inl hq
   .exact .inr (qe.mp hq)
theorem ag1{ps:List (Int×Int)}(nd:(ps.map (·.1)).Nodup):(∀l',cH (bJ ps l) l'=if l'=l then 0 else cH ps l')/\nU (bJ ps l)=nU ps - cH ps l/\((bJ ps l).map (·.1)).Nodup/\(∀q∈bJ ps l,q∈ps/\q.1≠l)/\(bJ ps l).length<=ps.length:=by
 have sub:∀q∈bJ ps l,q∈ps/\q.1≠l:=λq hq=>by
  obtain⟨a,b⟩:=qu.mp hq;exact⟨a,by simpa using b⟩
 have both:(∀l',cH (bJ ps l) l'=if l'=l then 0 else cH ps l')/\nU (bJ ps l)=nU ps - cH ps l:=by
  clear sub
  induction ps with
  |nil=>exact⟨λl'=>by simp[bJ,pB],by simp[bJ,nU,pB]⟩
  |cons q r ih =>
   rw[iy,qy]at nd;obtain⟨i1,i2⟩:=ih nd.2;by_cases c:q.1=l
   .have e:bJ (q::r) l=bJ r l:=by simp[bJ,c]
    have nl:l∉r.map (·.1):=c ▸ nd.1;refine⟨λl'=>?_,?_⟩
    .rw[e,i1,cJ];by_cases z:l'=l
     .simp[z]
     .have:¬ l=l':=λw=>z w.symm;simp[z,c,this]
    .rw[e,i2,mX,cJ,if_pos c,ag0 nl];omega
   .have e:bJ (q::r) l=q::bJ r l:=by simp[bJ,c]
    refine⟨λl'=>?_,?_⟩
    .rw[e,cJ,cJ,i1];by_cases z:q.1=l'
     .subst z;simp[c]
     .simp[z]
    .rw[e,mX,mX,i2,cJ,if_neg c];omega
 refine⟨both.1,both.2,?_,sub,yx _ _⟩;exact nd.sublist ((a2u).map _)
theorem a8C(h:∀q∈ps,1<=q.2):0<=cH ps l:=by
 unfold cH;cases q:aJ ps l with
 |none=>exact a1f _
 |some v=>have:=h _ (j5 q);simp only at this;show 0<=v;omega
structure Bin(room:Int)(ps:List (Int×Int)):Prop where
 ne:ps≠[]
 nd:(ps.map (·.1)).Nodup
 pos:∀q∈ps,1<=q.2
 sm:nU ps<=room
structure Shv(room:Int)(n:Nat)(M:List (List Key×bw))(c:bw->List (Int×Int)):Prop where
 kn:(M.map (·.1)).Nodup
 an:(M.map (·.2)).Nodup
 bn:∀z∈M,Bin room (c z.2)/\(c z.2).length<=n
 ks:∀z∈M,∃a p:Int,z.1=ky a p
 len:M.length<=n
theorem Shv.nil:Shv room 0 [] c:=⟨by simp,by simp,(λz hz=>by cases hz),(λz hz=>by cases hz),by simp⟩
theorem Shv.up{m:Nat}(h:Shv room n M c)(l:n<=m):Shv room m M c:=⟨h.kn,h.an,λz hz=>⟨(h.bn z hz).1,qj (h.bn z hz).2 l⟩,h.ks,qj h.len l⟩
noncomputable def setC(c:bw->List (Int×Int))(d:bw)(ps:List (Int×Int)):bw->List (Int×Int):=λq=>if q=d then ps else c q
theorem lV:setC c d ps d=ps:=if_pos rfl
theorem u6(h:q≠d):setC c d ps q=c q:=if_neg h
variable{sh:bw}{x y g:Nat}{room:Int}{st:bw}{M:List (List Key×bw)}{c:bw->List (Int×Int)}
theorem alC{k:List Key}(n:k≠k'):∀{M:List (List Key×bw)},aJ (M++[(k',e)]) k=aJ M k
 |[]=>by
  show(if k'=k then aj e else bh)=bh;rw[if_neg (Ne.symm n)]
 |z::r=>by
  rw[a2h,aJ,aJ,alC n]
theorem a8D{k:List Key}(n:k≠k'):∀{M:List (List Key×bw)},aJ (bJ M k') k=aJ M k
 |[]=>rfl
 |z::r=>by
  by_cases e:z.1=k'
  .have er:bJ (z::r) k'=bJ r k':=by simp[bJ,e]
   rw[er,a8D n,aJ,if_neg (by rw[e];exact Ne.symm n)]
  .have er:bJ (z::r) k'=z::bJ r k':=by simp[bJ,e]
   rw[er,aJ,aJ,a8D n]
theorem ad3{z y:List Key×bw}:∀{M:List (List Key×bw)},(M.map (·.2)).Nodup->z∈M->y∈M->z.2=y.2->z=y
 |[],_,h,_,_=>by cases h
 |w::r,nd,h1,h2,e=>by
  rw[iy,qy]at nd;rcases je.mp h1 with a|a<;>rcases je.mp h2 with b|b
  .rw[a,b]
  .exact absurd (by rw[←a,e];exact dw.mpr ⟨_,b,rfl⟩) nd.1
  .exact absurd (by rw[←b,←e];exact dw.mpr ⟨_,a,rfl⟩) nd.1
  .exact ad3 nd.2 a b e
def Kp(st:bw)(M M':List (List Key×bw))(G G':Gp):Prop:=(∀q u,q≠st->q∉M.map (·.2)->G q=aj u->G' q=aj u)/\∀q∈M'.map (·.2),q∈M.map (·.2)∨G q=bh
theorem Kp.trans{M M1 M2:List (List Key×bw)}(h:Kp st M M1 G G1)(h2:Kp st M1 M2 G1 G2)(hs:G1 st≠bh):Kp st M M2 G G2:=by
 refine⟨λq u n1 n2 e=>?_,λq hq=>?_⟩
 .refine h2.1 q u n1 (λz=>?_) (h.1 q u n1 n2 e);rcases h.2 q z with z|z
  .exact n2 z
  .rw[z]at e;cases e
 .rcases h2.2 q hq with z|z
  .exact h.2 q z
  .by_cases c:q∈M.map (·.2)
   .exact .inl c
   .right;cases e:G q with
    |none=>rfl
    |some u =>
     have n1:q≠st:=λw=>hs (w ▸ z);have:=h.1 q u n1 c e;rw[z]at this;cases this
theorem Kp.le{M M1:List (List Key×bw)}(l:Le G0 G)(h:Kp st M M1 G G1):Kp st M M1 G0 G1:=⟨λq u n1 n2 e=>h.1 q u n1 n2 (l _ _ e),λq hq=>by
 rcases h.2 q hq with z|z
 .exact .inl z
 .right;cases e:G0 q with
  |none=>rfl
  |some u=>rw[l _ _ e]at z;cases z⟩
variable{c:bw->List (Int×Int)}
theorem aiP{M:List (List Key×bw)}{z:List Key×bw}(kn:(M.map (·.1)).Nodup)(h:z∈M):cI M c z.1=c z.2:=by
 unfold cI;rw[fL kn h]
theorem qD{M:List (List Key×bw)}{k:List Key}(hr:0<=room)(v:Shv room n M c):((cI M c k).map (·.1)).Nodup/\(∀q∈cI M c k,1<=q.2)/\nU (cI M c k)<=room/\(cI M c k).length<=n:=by
 unfold cI;cases e:aJ M k with
 |none=>exact⟨a0q,(λq hq=>by cases hq),hr,vh _⟩
 |some d =>
  obtain⟨b,l⟩:=v.bn _ (j5 e);exact⟨b.nd,b.pos,b.sm,l⟩
theorem aEP(v:Int):cH [(lot,v)] l=if l=lot then v else 0:=by
 rw[cJ];by_cases e:l=lot
 .rw[if_pos e.symm,if_pos e]
 .rw[if_neg (Ne.symm e),if_neg e];rfl
def Chg(M:List (List Key×bw))(c:bw->List (Int×Int))(M':List (List Key×bw))(c':bw->List (Int×Int))(k:List Key)(lot more:Int):Prop:=(∀l,cH (cI M' c' k) l=cH (cI M c k) l+if l=lot then more else 0)/\nU (cI M' c' k)=nU (cI M c k)+more
theorem alD(s:SH A sh x y g room st M c G)(v:Shv room n M c){k:List Key}(hk:aJ M k=aj d){ps:List (Int×Int)}(b:Bin room ps)(hl:ps.length<=n+1)(hv:∀l,cH ps l=cH (c d) l+if l=lot then more else 0)(hsm:nU ps=nU (c d)+more)(e:G' d=aj (.bC ao (ps.map jJ)))(hk2:∀q u,q≠d->G q=aj u->G' q=aj u) :
  SH A sh x y g room st M (setC c d ps) G'/\Shv room (n+1) M (setC c d ps)/\Chg M c M (setC c d ps) k lot more/\(∀k',k'≠k->cI M (setC c d ps) k'=cI M c k')/\Kp st M M G G':=by
 have hm:=j5 hk;have hd:=s.ins _ hm;have ne:sh≠d:=λz=>by have:=s.sh;rw[z,hd]at this;cases this
 have ne2:st≠d:=λz=>by have:=s.st;rw[z,hd]at this;cases this
 refine⟨⟨s.o,hk2 _ _ ne s.sh,hk2 _ _ ne2 s.st,λz hz=>?_⟩,⟨v.kn,v.an,λz hz=>?_,v.ks,a1i v.len⟩,?_,λk' n'=>?_,λq u n1 n2 w=>hk2 q u (λz=>n2 (by rw[z];exact dw.mpr ⟨_,hm,rfl⟩)) w,λq hq=>.inl hq⟩
 .by_cases w:z.2=d
  .rw[w,lV];exact e
  .rw[u6 w];exact hk2 _ _ w (s.ins z hz)
 .by_cases w:z.2=d
  .rw[w,lV];exact⟨b,hl⟩
  .rw[u6 w];exact⟨(v.bn z hz).1,a1i (v.bn z hz).2⟩
 .have e1:cI M c k=c d:=by unfold cI;rw[hk]
  have e2:cI M (setC c d ps) k=ps:=by unfold cI;rw[hk];exact lV
  unfold Chg;rw[e1,e2];exact⟨hv,hsm⟩
 .unfold cI;cases e':aJ M k' with
  |none=>rfl
  |some d' =>
   have:d'≠d:=λw=>n' (by have:=ad3 v.an (j5 e') hm w;exact congrArg (·.1) this);exact u6 this
theorem azR(s:SH A sh x y g room st M c G)(v:Shv room n M c)(hn:n<900){p:Int}(hm:more≠0)(h0:0<=cH (cI M c (ky a p)) lot+more)(hr:nU (cI M c (ky a p))+more<=room)
  (h:∀M' c' G',SH A sh x y g room st M' c' G'->Shv room (n+1) M' c'->Chg M c M' c' (ky a p) lot more->(∀k',k'≠ky a p->cI M' c' k'=cI M c k')->Kp st M M' G G'->R .non G'):fY K A [.ref st,.tup [.int a,.int p],.int lot,.int more] G R EX:=by
 have ne3:sh≠st:=λz=>by have:=s.sh;rw[z,s.st]at this;cases this
 have nst:∀z∈M,z.2≠st:=λz hz w=>by have:=s.ins z hz;rw[w,s.st]at this;cases this
 cases hk:aJ M (ky a p)with
 |none =>
  have eh:cI M c (ky a p)=[]:=by unfold cI;rw[hk]
  rw[eh]at h0 hr;have h0':0<=more:=by simpa[pB]using h0
  have hr':more<=room:=by simpa[nU]using hr
  refine ad0 s.st (by have:=v.len;omega) hk hm λe G' he s2 d2 k2=>?_;have nin:∀z∈M,z.2≠e:=λz hz w=>by have:=s.ins z hz;rw[w,he]at this;cases this
  have nm:e∉M.map (·.2):=λw=>by obtain⟨z,hz,w⟩:=dw.mp w;exact nin z hz w
  refine h (M++[(ky a p,e)]) (setC c e [(lot,more)]) G' ⟨s.o,k2 _ _ ne3 s.sh,s2,λz hz=>?_⟩ ⟨?_,?_,λz hz=>?_,λz hz=>?_,?_⟩ ?_ (λk' n'=>?_) ⟨λq u n1 _ w=>k2 q u n1 w,λq hq=>?_⟩
  .rcases ug.mp hz with hz|hz
   .rw[u6 (nin z hz)];exact k2 _ _ (nst z hz) (s.ins z hz)
   .cases qe.mp hz;rw[show setC c e [(lot,more)] (ky a p,e).2=[(lot,more)]from lV];exact d2
  .rw[mz,uq];refine⟨v.kn,by simp,λu hu w hw z=>?_⟩;simp at hw;exact jU.mp hk (by rw[←hw,←z];exact hu)
  .rw[mz,uq];refine⟨v.an,by simp,λu hu w hw z=>?_⟩;simp at hw;exact nm (by rw[←hw,←z];exact hu)
  .rcases ug.mp hz with hz|hz
   .rw[u6 (nin z hz)];exact⟨(v.bn z hz).1,a1i (v.bn z hz).2⟩
   .cases qe.mp hz;rw[show setC c e [(lot,more)] (ky a p,e).2=[(lot,more)]from lV];refine⟨⟨by simp,by simp,λq hq=>?_,?_⟩,by simp⟩
    .cases qe.mp hq;show 1<=more;omega
    .rw[mX];show more+0<=room;omega
  .rcases ug.mp hz with hz|hz
   .exact v.ks z hz
   .cases qe.mp hz;exact⟨a,p,rfl⟩
  .have:=v.len;rw[uc];exact Nat.add_le_add_right this 1
  .have e1:aJ (M++[(ky a p,e)]) (ky a p)=aj e:=fL (z:=(ky a p,e)) (by
    rw[mz,uq];refine⟨v.kn,by simp,λu hu w hw z=>?_⟩;simp at hw;exact jU.mp hk (by rw[←hw,←z];exact hu)) (by simp)
   have e2:cI (M++[(ky a p,e)]) (setC c e [(lot,more)]) (ky a p)=[(lot,more)]:=by unfold cI;rw[e1];exact lV
   unfold Chg;rw[e2,eh];refine⟨λl=>?_,?_⟩
   .rw[aEP,pB];omega
   .simp[nU]
  .unfold cI;rw[alC n'];cases e':aJ M k' with
   |none=>rfl
   |some d'=>exact u6 (nin _ (j5 e'))
  .rw[mz]at hq;rcases ug.mp hq with hq|hq
   .exact .inl hq
   .simp at hq;rw[hq];exact .inr he
 |some d =>
  have hmm:=j5 hk;have hd:=s.ins _ hmm;obtain⟨b,bl⟩:Bin room (c d)/\(c d).length<=n:=v.bn _ hmm;have eh:cI M c (ky a p)=c d:=by unfold cI;rw[hk]
  rw[eh]at h0 hr;have bl':(c d).length<=n:=bl;refine a1L s.st (by have:=v.len;omega) hk hd (by show(c d).length<1000;omega) (λw G' e k2=>?_) (λw wd G' e k2=>?_) λw wd G' e k2=>?_
  .obtain⟨q1,q2,q3,q4,q5⟩:=ad2 (l:=lot) (w:=(aJ (c d) lot).getD 0+more) b.nd;have ev:(aJ (c d) lot).getD 0=cH (c d) lot:=rfl;have e:G' d=aj (.bC ao ((bQ (c d) lot ((aJ (c d) lot).getD 0+more)).map jJ)):=e;rw[ev]at w e q1 q2 q3 q4 q5
   have hp:∀q∈bQ (c d) lot (cH (c d) lot+more),1<=q.2:=λq hq=>by
    rcases q4 q hq with z|z
    .exact b.pos q z
    .rw[z];show 1<=cH (c d) lot+more;omega
   have hv:∀l,cH (bQ (c d) lot (cH (c d) lot+more)) l=cH (c d) l+if l=lot then more else 0:=λl=>by
    rw[q1];by_cases z:l=lot
    .rw[if_pos z,if_pos z,z]
    .rw[if_neg z,if_neg z];omega
   obtain⟨z1,z2,z3,z4,z5⟩:=alD s v hk (lot:=lot) (more:=more) ⟨as8,q3,hp,by rw[q2];omega⟩ (qj q5 (Nat.succ_le_succ bl')) hv (by rw[q2];omega) e k2;exact h _ _ G' z1 z2 z3 z4 z5
  .obtain⟨q1,q2,q3,q4,q5⟩:=ad2 (l:=lot) (w:=0) b.nd;obtain⟨t1,t2,t3,t4,t5⟩:=ag1 (l:=lot) q3;have wd':bJ (bQ (c d) lot 0) lot=[]:=wd;rw[wd']at t1 t2;have w':cH (c d) lot+more=0:=w
   have hv:∀l,cH (c d) l=-(if l=lot then more else 0:Int):=λl=>by
    have:=t1 l;rw[q1,pB]at this;by_cases z:l=lot
    .rw[if_pos z,z];omega
    .rw[if_neg z,if_neg z]at this;rw[if_neg z];omega
   have sub:∀z∈bJ M (ky a p),z∈M:=λz hz=>(qu.mp hz).1;have sl:List.Sublist (bJ M (ky a p)) M:=a2u;refine h (bJ M (ky a p)) c G' ⟨s.o,k2 _ _ (λz=>by have:=s.sh;rw[z,hd]at this;cases this) ne3 s.sh,e,λz hz=>?_⟩ ⟨v.kn.sublist (sl.map _),v.an.sublist (sl.map _),λz hz=>⟨(v.bn z (sub z hz)).1,a1i (v.bn z (sub z hz)).2⟩,λz hz=>v.ks z (sub z hz),a1i (qj sl.length_le v.len)⟩ ?_ (λk' n'=>?_) ⟨λq u n1 n2 w=>k2 q u (λz=>n2 (by rw[z];exact dw.mpr ⟨_,hmm,rfl⟩)) n1 w,λq hq=>?_⟩
   .refine k2 _ _ (λw=>?_) (nst z (sub z hz)) (s.ins z (sub z hz));have:=ad3 v.an (sub z hz) hmm w;have h3:=(qu.mp hz).2;rw[this]at h3;simp at h3
   .have e1:aJ (bJ M (ky a p)) (ky a p)=bh:=jU.mpr λw=>by
     obtain⟨z,hz,w⟩:=dw.mp w;have h3:=(qu.mp hz).2;rw[w]at h3;simp at h3
    have e2:cI (bJ M (ky a p)) c (ky a p)=[]:=by unfold cI;rw[e1]
    unfold Chg;rw[e2,eh];refine⟨λl=>?_,?_⟩
    .rw[hv,pB];omega
    .have:nU []=0:=rfl;rw[q2,q1,if_pos rfl]at t2;omega
   .unfold cI;rw[a8D n']
   .obtain⟨z,hz,rfl⟩:=dw.mp hq;exact .inl (dw.mpr ⟨z,sub z hz,rfl⟩)
  .obtain⟨q1,q2,q3,q4,q5⟩:=ad2 (l:=lot) (w:=0) b.nd;obtain⟨t1,t2,t3,t4,t5⟩:=ag1 (l:=lot) q3;have w':cH (c d) lot+more=0:=w;have v0:=a8C (l:=lot) b.pos
   have hp:∀q∈bJ (bQ (c d) lot 0) lot,1<=q.2:=λq hq=>by
    obtain⟨m1,m2⟩:=t4 q hq;rcases q4 q m1 with z|z
    .exact b.pos q z
    .exact absurd (by rw[z]) m2
   have hv:∀l,cH (bJ (bQ (c d) lot 0) lot) l=cH (c d) l+if l=lot then more else 0:=λl=>by
    rw[t1,q1];by_cases z:l=lot
    .rw[if_pos z,if_pos z,z];omega
    .rw[if_neg z,if_neg z,if_neg z];omega
   obtain⟨z1,z2,z3,z4,z5⟩:=alD s v hk (lot:=lot) (more:=more) ⟨wd,t3,hp,by rw[t2,q2,q1,if_pos rfl];omega⟩ (qj t5 (qj q5 (Nat.succ_le_succ bl'))) hv (by rw[t2,q2,q1,if_pos rfl];omega) e k2;exact h _ _ G' z1 z2 z3 z4 z5
theorem ad4{κ α:Type}[DecidableEq κ]{k:κ}{v:α}{l:List (κ×α)}(h:k∉l.map (·.1)):bQ l k v=l++[(k,v)]:=by
 unfold bQ;rw[jU.mpr h];rfl
theorem ab4:∀qs:List (Int×Int),a2P (qs.map cY)=aj (qs.map λq=>(.inl q.1,.int q.2))
 |[]=>rfl
 |q::r=>by
  rw[iy,a2P,ab4 r];rfl
theorem fold_all:∀(qs ds:List (Int×Int)),((ds++qs).map (·.1)).Nodup->a70 (ds.map jJ) (qs.map λq=>(.inl q.1,.int q.2))=(ds++qs).map jJ
 |[],ds,_=>by rw[a0g];rfl
 |q::r,ds,nd=>by
  have hn:q.1∉ds.map (·.1):=λh=>by
   rw[mz,uq]at nd;exact nd.2.2 q.1 h q.1 (by simp) rfl
  show a70 (bQ (ds.map jJ) (.inl (.inl q.1)) (.int q.2)) (r.map λq=>(.inl q.1,.int q.2))=_;rw[akX,ad4 hn,fold_all r (ds++[(q.1,q.2)]) (by rw[List.append_assoc];exact nd),List.append_assoc];rfl
theorem anA{qs:List (Int×Int)}(h:aY G r=aj (qs.map cY))(nd:(qs.map (·.1)).Nodup):tM [.ref r] G R=∀e,G e=bh->R (.ref e) (aH G e (.bC ao (qs.map jJ))):=by
 unfold L2.tM;simp only[h,ab4];rw[show a70 [] (qs.map λq=>(.inl q.1,.int q.2))=qs.map jJ from fold_all qs [] nd]
noncomputable abbrev kq(q:Int×Int):List Key:=ky q.1 q.2
theorem alE:∀{M:List (List Key×bw)},(∀z∈M,∃a p:Int,z.1=ky a p)->∃ps:List (Int×Int),M.map (·.1)=ps.map kq
 |[],_=>⟨[],rfl⟩
 |z::r,h=>by
  obtain⟨a,p,e⟩:=h z (.head _);obtain⟨ps,e2⟩:=alE (M:=r) λy hy=>h y (.tail _ hy);exact⟨(a,p)::ps,by rw[iy,iy,e,e2]⟩
theorem sort_keys{M:List (List Key×bw)}(h:G st=aj (.bC ak (M.map kY)))(kn:(M.map (·.1)).Nodup)(ks:∀z∈M,∃a p:Int,z.1=ky a p)(hl:M.length<64)(k:∀(qs:List (Int×Int))(r:bw),(qs.map kq).Perm (M.map (·.1))->dG qs->G r=bh->R (.ref r) (aH G r (.lst (qs.map cY)))):nP [.ref st] G R:=by
 obtain⟨ps,e⟩:=alE ks;have nd:ps.Nodup:=a1r.of_map kq (λa b h e=>h (by rw[e])) (e ▸ kn);have len:ps.length=M.length:=by have:=congrArg a1c e;simpa using this.symm
 refine afF (ps:=ps) h ?_ nd (by omega) λqs p1 p2 r hr=>k qs r (e ▸ p1.map kq) p2 hr;rw[jt,show(λq:DK×D=>dkD q.1)∘kY=(λks=>dkD (.inr ks))∘(λz:List Key×bw=>z.1)from rfl,←jt,e,jt];rfl
structure Lyg(M:List (List Key×bw))(c:bw->List (Int×Int))(G:Gp)(t:bw)(qs:List (Int×Int))(N:List (List Key×bw))(c':bw->List (Int×Int))(G':Gp):Prop where
 t0:G t=bh
 tt:G' t=aj (.bC ak (N.map kY))
 ri:dG qs
 kq:N.map (·.1)=qs.map kq
 ke:(N.map (·.1)).Perm (M.map (·.1))
 ins:∀z∈N,G' z.2=aj (.bC ao ((c' z.2).map jJ))/\(c' z.2).Perm (cI M c z.1)/\dG (c' z.2)/\G z.2=bh
theorem a5Y(s:SH A sh x y g room st M c G)(v:Shv room n M c)(hn:n<64)(h:∀t qs N c' G',Le G G'->Lyg M c G t qs N c' G'->R (.ref t) G'):cB K A [.ref sh] G R EX:=by
 have big:10000<cu:=by decide
 refine⟨rfl,?_⟩;show mZ K A _ _ [aj (.ref sh)] G;exists mZ;rw[j6 s.sh rfl];walk_at "wr";refine⟨rfl,?_⟩;show zP K A _ _ [aj (.ref st),bh,bh] G;exists zP;intro t ht;have l1:Le G (aH G t (.bC ak [])):=.new ht;exists a0Z;refine sort_keys (l1 _ _ s.st) v.kn v.ks (za v.len hn) λqs r pq ri hr=>?_;have l2:Le (aH G t (.bC ak [])) (aH (aH G t (.bC ak [])) r (.lst (qs.map cY))):=.new hr;have nr:r≠t:=λz=>by rw[z]at hr;rw[aD]at hr;cases hr
 have qn:(qs.map kq).Nodup:=pq.nodup_iff.mpr v.kn;rw[xH dM];refine a0U (λk ρ G'=>aY G' r=aj (qs.map cY)/\∃r2 N c',ρ=[aj (.ref st),aj (.ref t),r2]/\Le G G'/\G' t=aj (.bC ak (N.map kY))/\N.map (·.1)=(qs.take k).map kq/\∀z∈N,G' z.2=aj (.bC ao ((c' z.2).map jJ))/\(c' z.2).Perm (cI M c z.1)/\dG (c' z.2)/\G z.2=bh) ⟨dM,_,[],c,rfl,l1.trans l2,l2 _ _ aD,rfl,λz hz=>nomatch hz⟩ (λk ρ G' h=>h.1) (λk d' ρ G' hd' hh=>?_) λρ G' hh=>?_
 .obtain⟨hl,r2,N,c',rfl,l3,tt,ek,hi⟩:=hh;obtain⟨q,eq,rfl⟩:=a2S hd';obtain⟨a,p⟩:=q;have hm:kq (a,p)∈M.map (·.1):=pq.mem_iff.mp (dw.mpr ⟨_,jx eq,rfl⟩);obtain⟨⟨kk,d⟩,hz,e1⟩:=dw.mp hm;have e1:kk=ky a p:=e1;subst e1;have vd:=fL v.kn hz;have hz':=hz;have hd:=s.ins _ hz;obtain⟨bn,bl⟩:Bin room (c d)/\(c d).length<=n:=v.bn _ hz;exists yW;rw[show cY (a,p)=.tup [.int a,.int p]from rfl];rw[xJ (l3 _ _ s.st) iZ rfl (by rw[jQ,vd];rfl)];walk_at "wr";refine afE (ps:=c d) (l3 _ _ hd) (za bl hn) λps p1 p2 r3 h3=>?_;walk_at "wr";have lr:Le G' (aH G' r3 (.lst (ps.map cY))):=.new h3;refine(show tM [.ref r3] (aH G' r3 (.lst (ps.map cY))) _ from ?_);rw[anA dM ((p1.map _).nodup_iff.mpr bn.nd)];intro e he;have le:Le _ (aH (aH G' r3 (.lst (ps.map cY))) e (.bC ao (ps.map jJ))):=.new he;walk_at "wr";have t3:=le _ _ (lr _ _ tt);have ne:e≠t:=λz=>by rw[z]at he;rw[lr _ _ tt]at he;cases he
  have nN:ky a p∉N.map (·.1):=by
   rw[ek];intro w;have nd2:((qs.take (k+1)).map kq).Nodup:=qn.sublist ((List.take_sublist _ _).map _);rw[a1o,eq,mz,uq]at nd2;exact nd2.2.2 _ w _ (by simp) rfl
  have lN:N.length<=k:=by
   have:=congrArg a1c ek;simp at this;omega
  have lk:k<64:=by
   have h1:k<qs.length:=(ji.mp eq).1;have h2:=pq.length_eq;simp at h2;have:=v.len;omega
  rw[a5U t3 iZ rfl (by rw[dj];omega)]
  have ep:bQ (N.map kY) (.inr (ky a p)) (.ref e)=(N++[(ky a p,e)]).map kY:=by
   rw[ad4,mz]
   .rfl
   .intro w;obtain⟨z,hz,e2⟩:=dw.mp w;obtain⟨y,hy,rfl⟩:=dw.mp hz;exact nN (dw.mpr ⟨y,hy,Sum.inr.inj e2⟩)
  rw[ep]
  have ge:∀z∈N,z.2≠e:=λz hz w=>by
   have:=lr _ _ (hi z hz).1;rw[w,he]at this;cases this
  have gt:∀z∈N,z.2≠t:=λz hz w=>by
   have:=(hi z hz).1;rw[w,tt]at this;cases this
  refine⟨?_,_,N++[(ky a p,e)],setC c' e ps,rfl,λq u z=>?_,aD,?_,λz hz=>?_⟩
  .have z:=a0T le (a0T lr hl);unfold L2.aY at z ⊢;rw[aN nr];exact z
  .have nq:q≠t:=λw=>by rw[w,ht]at z;cases z
   rw[aN nq];exact le _ _ (lr _ _ (l3 _ _ z))
  .rw[mz,ek,a1o,eq,mz];rfl
  .rcases ug.mp hz with hz|hz
   .obtain⟨i1,i2,i4,i3⟩:=hi z hz;rw[u6 (ge z hz),aN (gt z hz)];exact⟨le _ _ (lr _ _ i1),i2,i4,i3⟩
   .cases qe.mp hz;rw[show setC c' e ps (ky a p,e).2=ps from lV,show(ky a p,e).2=e from rfl,aN ne];refine⟨aD,?_,p2,?_⟩
    .rw[show cI M c (ky a p,e).1=c d from aiP (z:=(ky a p,d)) v.kn hz'];exact p1
    .cases ge:G e with
     |none=>rfl
     |some u =>
      have:=lr _ _ (l3 _ _ ge);rw[he]at this;cases this
 .obtain⟨_,r2,N,c',rfl,l,tt,ek,hi⟩:=hh;exists a0Y;refine bZ.here (bZ.here (h t qs N c' G' l ⟨ht,tt,ri,?_,?_,hi⟩))
  .rw[ek,dj,a0a]
  .rw[ek,dj,a0a];exact pq
noncomputable def dv(d:D):List Key:=match xU d with
 |some (.inr k)=>k
 |_=>[]
noncomputable def pcE(q:(Int×Int)×Int):D:=.tup [cY q.1,.int q.2]
theorem asC(s:SH A sh x y g room st M c G)(v:Shv room n M c)(hn:n<64)(hl:0<=lot/\lot<=999)(h:∀(qs:List (Int×Int)) r G',Le G G'->(qs.map kq).Perm (M.map (·.1))->dG qs->G r=bh->G' r=aj (.lst (((qs.filter λq=>(aJ (cI M c (kq q)) lot).isSome).map λq=>(q,cH (cI M c (kq q)) lot)).map pcE))->R (.ref r) G'):cF K A [.ref sh,.int lot] G R EX:=by
 have big:10000<cu:=by decide
 refine⟨rfl,?_⟩;show lH K A _ _ [aj (.ref sh),aj (.int lot)] G;exists lH;refine a1J hl ?_;exists oO;rw[j6 s.sh rfl];walk_at "wr";refine sort_keys s.st v.kn v.ks (za v.len hn) λqs r pq ri hr=>?_;rw[a7F dM];have l0:Le G (aH G r (.lst (qs.map cY))):=.new hr
 have lq:qs.length<64:=by
  have h2:=pq.length_eq;simp at h2;have:=v.len;omega
 have get:∀z∈qs.map cY,∃a p d,z=.tup [.int a,.int p]/\dv z=ky a p/\aJ M (ky a p)=aj d/\cI M c (ky a p)=c d/\G d=aj (.bC ao ((c d).map jJ)):=λz hz=>by
  obtain⟨⟨a,p⟩,hq,rfl⟩:=dw.mp hz;have hm:kq (a,p)∈M.map (·.1):=pq.mem_iff.mp (dw.mpr ⟨_,hq,rfl⟩);obtain⟨⟨kk,d⟩,hz,e1⟩:=dw.mp hm;have e1:kk=ky a p:=e1;subst e1;exact⟨a,p,d,rfl,rfl,fL v.kn hz,aiP v.kn hz,s.ins _ hz⟩
 refine akR (λz=>(aJ (cI M c (dv z)) lot).isSome) (λz=>.tup [z,.int (cH (cI M c (dv z)) lot)]) (by show(qs.map cY).length<cu;rw[dj];omega) dM (λz hz G' l Q hQ=>?_) (λz hz hf G' l Q hQ=>?_) λq hq=>?_
 .obtain⟨a,p,d,rfl,ed,ev,eh,hd⟩:=get z hz;have l2:=l0.trans l;walk_at "wr";rw[j6 (l2 _ _ s.sh) rfl,xJ (l2 _ _ s.st) iZ rfl (by rw[jQ,ev];rfl),aEF (l2 _ _ hd) mK rfl,pU];simp only[ed,eh]at hQ;walk_at "wr";cases e:aJ (c d) lot with
  |none=>rw[e]at hQ;exact hQ _ (.refl _)
  |some w=>rw[e]at hQ;exact hQ _ (.refl _)
 .obtain⟨a,p,d,rfl,ed,ev,eh,hd⟩:=get z hz;have l2:=l0.trans l;simp only[ed,eh]at hf hQ;obtain⟨w,ew⟩:=a0r.mp hf;have e0:cH (c d) lot=w:=by unfold cH;rw[ew];rfl
  rw[e0]at hQ;walk_at "wr";rw[j6 (l2 _ _ s.sh) rfl,xJ (l2 _ _ s.st) iZ rfl (by rw[jQ,ev];rfl),xJ (l2 _ _ hd) mK rfl (by rw[pU,ew];rfl)];walk_at "wr";exact hQ _ (.refl _)
 .refine bZ.here (h qs q _ (l0.trans (.new hq)) pq ri (by cases e:G q with|none=>rfl|some u=>rw[l0 _ _ e]at hq;cases hq) ?_);rw[aD];show aj (GO.lst (((qs.map cY).filter _).map _))=_;rw[a2q,jt,jt];rfl
noncomputable abbrev Wk:=((Int×Int)×Int)×Int
noncomputable def nk(k:(Int×Int)×Int):NK:=([k.1.1,k.1.2],k.2)
noncomputable abbrev wN(W:List Wk):List (NK×Int):=W.map λz=>(nk z.1,z.2)
theorem a6D{k:(Int×Int)×Int}(h:nk j=nk k):j=k:=by
 obtain⟨⟨a,p⟩,l⟩:=j;obtain⟨⟨b,q⟩,m⟩:=k;simp[nk]at h;simp[h]
theorem alG{k:(Int×Int)×Int}:∀W:List Wk,(wN W).lookup (nk k)=aJ W k
 |[]=>rfl
 |z::W=>by
  show xq (nk k) ((nk z.1,z.2)::wN W)=_;rw[ud];unfold aJ;by_cases c:z.1=k
  .rw[if_pos c,c,beq_self_eq_true]
  .rw[if_neg c,show(nk k==nk z.1)=ao from beq_eq_false_iff_ne.mpr λe=>c (a6D e.symm)];exact alG W
theorem aEQ{k:(Int×Int)×Int}{n:Int}:putN (wN W) (nk k) n=wN (bQ W k n):=by
 unfold putN bQ;rw[alG];split
 ·show(W.map _).map _=(W.map _).map _;rw[jt,jt];refine um λz _=>?_;show(if nk z.1=nk k then(nk z.1,n)else(nk z.1,z.2))=(nk (if z.1=k then(z.1,n)else z).1,(if z.1=k then(z.1,n)else z).2);by_cases c:z.1=k
  .rw[if_pos c,if_pos (by rw[c])]
  .rw[if_neg c,if_neg λe=>c (a6D e)]
 .show _=(W++[(k,n)]).map _;rw[mz];rfl
structure Rl(M:List (List Key×bw))(c:bw->List (Int×Int))(W:List Wk):Prop where
 nd:(W.map (·.1)).Nodup
 pos:∀z∈W,1<=z.2
 va:∀a p l,cH (cI M c (ky a p)) l=(aJ W ((a,p),l)).getD 0
theorem Rl.mem(r:Rl M c W)(v:Shv room n M c)(hr:0<=room){w:Int}:(l,w)∈cI M c (kq q)↔((q,l),w)∈W:=by
 obtain⟨nd,ps,_,_⟩:=qD (k:=kq q) hr v;have e:cH (cI M c (kq q)) l=(aJ W (q,l)).getD 0:=r.va q.1 q.2 l;constructor
 .intro h;have e1:=fL nd h;have p1:1<=w:=ps _ h;have e2:cH (cI M c (kq q)) l=w:=by unfold cH;rw[show aJ (cI M c (kq q)) l=aj w from e1];rfl
  rw[e2]at e;cases z:aJ W (q,l)with
  |none=>rw[z]at e;simp at e;omega
  |some u =>
   rw[z]at e;have:w=u:=e;rw[this];exact j5 z
 .intro h;have e1:=fL r.nd h;have p1:1<=w:=r.pos _ h;rw[show aJ W (q,l)=aj w from e1]at e;have e:cH (cI M c (kq q)) l=w:=e;unfold cH at e;cases z:aJ (cI M c (kq q)) l with
  |none=>rw[z]at e;simp at e;omega
  |some u =>
   rw[z]at e;have:u=w:=e;rw[←this];exact j5 z
theorem alH{α:Type}{r:α->α->Prop}(as:∀a b,r a b->r b a->False):∀{xs ys:List α},xs.Pairwise r->ys.Pairwise r->(∀z,z∈xs↔z∈ys)->xs=ys
 |[],[],_,_,_=>rfl
 |[],y::ys,_,_,h=>absurd ((h y).mpr (.head _)) (by simp)
 |x::xs,[],_,_,h=>absurd ((h x).mp (.head _)) (by simp)
 |x::xs,y::ys,hx,hy,h=>by
  rw[List.pairwise_cons]at hx hy
  have e:x=y:=by
   rcases je.mp ((h x).mp (.head _))with e|m
   .exact e
   .rcases je.mp ((h y).mpr (.head _))with e|m2
    .exact e.symm
    .exact(as _ _ (hy.1 _ m) (hx.1 _ m2)).elim
  subst e;have i:∀z,r x z->z≠x:=λz q e=>by rw[e]at q;exact as _ _ q q
  rw[alH as hx.2 hy.2 λz=>⟨λm=>?_,λm=>?_⟩]
  .exact(je.mp ((h z).mp (.tail _ m))).resolve_left (i z (hx.1 z m))
  .exact(je.mp ((h z).mpr (.tail _ m))).resolve_left (i z (hy.1 z m))
theorem asD(a b:Int×Int)(h:pI a b)(h2:pI b a):False:=by
 unfold pI at h h2;omega
def IsH(W:List Wk)(s:Int×Int)(qs:List (Int×Int)):Prop:=dG qs/\∀l v,(l,v)∈qs↔((s,l),v)∈W
def IsP(W:List Wk)(l:Int)(ws:List ((Int×Int)×Int)):Prop:=ws.Pairwise (λa b=>pI a.1 b.1)/\∀s v,(s,v)∈ws↔((s,l),v)∈W
def IsL(W:List Wk)(zs:List ((Int×Int)×List (Int×Int))):Prop:=dG (zs.map (·.1))/\(∀z∈zs,z.2≠[]/\IsH W z.1 z.2)/\∀s l v,((s,l),v)∈W->s∈zs.map (·.1)
theorem IsH.eq(h:IsH W s xs)(h2:IsH W s ys):xs=ys:=alH asD h.1 h2.1 λz=>(h.2 z.1 z.2).trans (h2.2 z.1 z.2).symm
theorem IsP.eq(h:IsP W l xs)(h2:IsP W l ys):xs=ys:=alH (λa b=>asD a.1 b.1) h.1 h2.1 λz=>(h.2 z.1 z.2).trans (h2.2 z.1 z.2).symm
theorem IsL.keys(h:IsL W zs):s∈zs.map (·.1)↔∃l v,((s,l),v)∈W:=by
 constructor
 .intro m;obtain⟨z,hz,rfl⟩:=dw.mp m;obtain⟨n,i⟩:=h.2.1 z hz;obtain⟨q,r,e⟩:=List.exists_cons_of_ne_nil n;exact⟨q.1,q.2,(i.2 q.1 q.2).mp (by rw[e];exact .head _)⟩
 .rintro⟨l,v,m⟩;exact h.2.2 s l v m
theorem IsL.eq(h:IsL W xs)(h2:IsL W ys):xs=ys:=by
 have e:xs.map (·.1)=ys.map (·.1):=alH asD h.1 h2.1 λz=>h.keys.trans h2.keys.symm;have el:xs.length=ys.length:=by have:=congrArg a1c e;simpa using this
 refine List.ext_getElem el λi h1 h3=>?_
 have e1:xs[i].1=ys[i].1:=by
  have:=congrArg (·[i]?) e;simpa[h1,h3]using this
 have a:=(h.2.1 _ (wz h1)).2;have b:=(h2.2.1 _ (wz h3)).2;rw[e1]at a;exact Prod.ext e1 (a.eq b)
noncomputable def rmG(G:Gp)(p:bw):Gp:=λq=>if q=p then bh else G q
theorem sJ:Le (rmG G p) G:=λq u e=>by
 unfold rmG at e;split at e
 .cases e
 .exact e
theorem qF(n:q≠p)(h:G q=aj u):rmG G p q=aj u:=by
 unfold rmG;rw[if_neg n];exact h
theorem ad5(l:Le G G'):Le (rmG G p) (rmG G' p):=λq u e=>by
 by_cases z:q=p
 .unfold rmG at e;rw[if_pos z]at e;cases e
 .exact qF z (l _ _ (sJ _ _ e))
theorem aES:Le (rmG G p) (aH G p o):=λq u e=>by
 by_cases z:q=p
 .unfold rmG at e;rw[if_pos z]at e;cases e
 .rw[aN z];exact sJ _ _ e
theorem le_none(l:Le G G')(h:G' r=bh):G r=bh:=by
 cases e:G r with
 |none=>rfl
 |some u=>rw[l _ _ e]at h;cases h
inductive Ask where
 |h (s:Int×Int)|p (l:Int)|a
noncomputable def Ask.is(W:List Wk)(G:Gp):Ask->D->Prop
 |.h s,d=>∃r qs,d=.ref r/\G r=aj (.lst (qs.map cY))/\IsH W s qs
 |.p l,d=>∃r ws,d=.ref r/\G r=aj (.lst (ws.map pcE))/\IsP W l ws
 |.a,d=>∃r zs es,d=.ref r/\G r=aj (.lst es)/\IsL W zs/\Paired (λz e=>∃q,e=.tup [cY z.1,.ref q]/\G q=aj (.lst (z.2.map cY))) zs es
theorem Ask.le(l:Le G G'){k:Ask}(h:Ask.is W G k d):Ask.is W G' k d:=by
 cases k with
 |h s=>obtain⟨r,qs,e,g,i⟩:=h;exact⟨r,qs,e,l _ _ g,i⟩
 |p s=>obtain⟨r,qs,e,g,i⟩:=h;exact⟨r,qs,e,l _ _ g,i⟩
 |a=>obtain⟨r,zs,es,e,g,i,p⟩:=h;exact⟨r,zs,es,e,l _ _ g,i,Paired.z9 p λ_ _ ⟨q,e,z⟩=>⟨q,e,l _ _ z⟩⟩
theorem a3E{α:Type}{r:α->D->Prop}{g:D->D->Bool}(h:∀z d e,r z d->r z e->f d e=ak/\g d e=ak):∀{zs:List α}{xs ys:List D},Paired r zs xs->Paired r zs ys->vK f xs ys=ak/\mD g xs ys=ak
 |[],_,_,.nil,.nil=>⟨rfl,rfl⟩
 |_::_,_::_,_::_,.cons a r,.cons b t=>by
  obtain⟨e1,e2⟩:=h _ _ _ a b;obtain⟨e3,e4⟩:=a3E h r t;rw[vK,mD,e1,e2,e3,e4];exact⟨rfl,rfl⟩
theorem a1N{n:Nat}:∀{xs:List D},(∀x∈xs,okN G n x x=ak)->vK (okN G n) xs xs=ak/\mD (xT G n) xs xs=ak
 |[],_=>⟨rfl,rfl⟩
 |x::xs,h=>by
  obtain⟨a,b⟩:=a1N λy hy=>h y (.tail _ hy);have c:=h x (.head _);rw[vK,mD,a,b,c,vL n x c];exact⟨rfl,rfl⟩
theorem a8E{s:bw}(e1:G r=aj (.lst xs))(e2:G s=aj (.lst ys))(h:vK (okN G n) xs ys=ak/\mD (xT G n) xs ys=ak):okN G (n+1) (.ref r) (.ref s)=ak/\xT G (n+1) (.ref r) (.ref s)=ak:=by
 have l1:aY G r=aj xs:=by unfold L2.aY;rw[e1]
 have l2:aY G s=aj ys:=by unfold L2.aY;rw[e2]
 unfold okN xT;simp only[l1,l2];exact h
theorem Ask.eq(k:Ask)(d e:D)(h:Ask.is W G k d)(h2:Ask.is W G k e):okN G 4 d e=ak/\xT G 4 d e=ak:=by
 cases k with
 |h s =>
  obtain⟨r,qs,rfl,g1,i⟩:=h;obtain⟨r2,qs2,rfl,g2,i2⟩:=h2;rw[i2.eq i]at g2;exact a8E g1 g2 (a1N λx hx=>by obtain⟨q,_,rfl⟩:=dw.mp hx;rfl)
 |p s =>
  obtain⟨r,qs,rfl,g1,i⟩:=h;obtain⟨r2,qs2,rfl,g2,i2⟩:=h2;rw[i2.eq i]at g2;exact a8E g1 g2 (a1N λx hx=>by obtain⟨q,_,rfl⟩:=dw.mp hx;rfl)
 |a =>
  obtain⟨r,zs,es,rfl,g1,i,p⟩:=h;obtain⟨r2,zs2,es2,rfl,g2,i2,p2⟩:=h2;rw[i2.eq i]at p2;refine a8E g1 g2 (a3E ?_ p p2);rintro z d e ⟨q,ed,gd⟩ ⟨q2,ee,ge⟩;obtain⟨a,b⟩:=a8E (n:=1) gd ge (a1N λx hx=>by obtain⟨q,_,rfl⟩:=dw.mp hx;rfl);rw[ed,ee];constructor
  .show(okN G 2 (cY z.1) (cY z.1)&&(okN G 2 (.ref q) (.ref q2)&&ak))=ak;rw[a];rfl
  .show(xT G 2 (cY z.1) (cY z.1)&&(xT G 2 (.ref q) (.ref q2)&&ak))=ak;rw[b,vL 2 (cY z.1) rfl];rfl
def Tld(W:List Wk)(ss:List (Int×Int))(ls:List Int)(ds:List D)(G:Gp):Prop:=Paired (Ask.is W G) (ss.map .h++ls.map .p++[.a]) ds
theorem Tld.le(l:Le G G')(h:Tld W ss ls ds G):Tld W ss ls ds G':=Paired.z9 h λ_ _ z=>Ask.le l z
theorem Tld.eq(h:Tld W ss ls ds G)(h2:Tld W ss ls es G):av8 G ds es=ak/\av9 G ds es=ak:=a3E Ask.eq h h2
theorem lW{α β:Type}{r:α->β->Prop}{xs xs':List α}{ys ys':List β}(h:Paired r xs ys)(h2:Paired r xs' ys'):Paired r (xs++xs') (ys++ys'):=by
 induction h with
 |nil=>exact h2
 |cons a _ ih=>exact .cons a ih
theorem a3F{α β:Type}{r:β->D->Prop}{f:α->D}{g:α->β}(inj:∀a b,f a=f b->a=b):∀{xs:List α}{ys:List D},Paired (λd y=>∃s,d=f s/\r (g s) y) (xs.map f) ys->Paired r (xs.map g) ys
 |[],_,.nil=>.nil
 |x::xs,_,.cons ⟨s,e,h⟩ t=>.cons (by rw[inj _ _ e];exact h) (a3F inj t)
theorem ad6(a b:Int×Int)(h:cY a=cY b):a=b:=by
 unfold cY at h;simp at h;exact Prod.ext h.1 h.2
theorem a5Z{src:Src}(P:D->D->Gp->Prop)(hm:∀d y G G',Le G G'->P d y G->P d y G')(hl:src.items.length<cu)(hok:src.ok G)
  (he:∀d∈src.items,∀G',Le G G'->∀Q:D->Gp->Prop,(∀y G'',Le G' G''->(∀p,G' p≠bh->P d y (rmG G'' p))->Q y G'')->te (aj d::ρ) G' Q)
  (h:∀p ys G',Le G G'->G p=bh->G' p=aj (.lst ys)->Paired (λd y=>P d y (rmG G' p)) src.items ys->R (.ref p) G'):akQ ac2 src qM te ρ G R:=by
 refine⟨hl,λp hp=>⟨λk ds G'=>Paired (λd y=>P d y (rmG G' p)) (src.items.take k) ds/\Le (aH G p (.lst ds)) G',⟨.nil,.refl _⟩,λk ds G' hk ⟨e,l⟩=>?_,λk d ds G' hd ⟨e,l⟩=>?_,λds G' ⟨e,l⟩=>?_⟩⟩
 .refine⟨azM ((Le.new hp).trans l) hok,l p _ aD,?_⟩;rw[←Paired.length e,a1q];omega
 .refine⟨[d],rfl,?_⟩;unfold L2.qM;dsimp only;rw[if_pos rfl];refine he d (jx hd) G' ((Le.new hp).trans l) _ λy G3 l3 hP=>?_;have l4:=l.trans l3;refine⟨l4 p _ aD,?_,arK l4⟩
  have ht:src.items.take (k+1)=src.items.take k++[d]:=by
   rw[a1o,hd];rfl
  have lu:Le (rmG G3 p) (rmG (aH G3 p (.lst (ds++[y]))) p):=λq u e=>by
   by_cases z:q=p
   .unfold rmG at e;rw[if_pos z]at e;cases e
   .exact qF z (aES _ _ e)
  rw[ht];exact lW (Paired.z9 e λ_ _ z=>hm _ _ _ _ ((ad5 l3).trans lu) z) (.cons (hm _ _ _ _ lu (hP p (by rw[l p _ aD];simp))) .nil)
 .rw[a0a]at e;exact⟨G',.refl _,h p ds G' ((Le.new hp).trans l) hp (l p _ aD) e⟩
theorem ad7(s:SH A sh x y g room st M c G)(v:Shv room n M c)(hn:n<64)(hr:0<=room)(r:Rl M c W){q:Int×Int}(b:OkB x y q.1 q.2)(h:∀rr qs G',Le G G'->G rr=bh->G' rr=aj (.lst (qs.map cY))->IsH W q qs->qs.length<64->R (.ref rr) G'):cT K A [.ref sh,cY q] G R EX:=by
 refine⟨rfl,?_⟩;show oN K A _ _ [aj (.ref sh),aj (.tup [.int q.1,.int q.2])] G;exists oN;rw[j6 s.sh rfl];walk_at "wr";refine wU s.o b ?_;exists rY;rw[j6 s.sh rfl];exists iQ s.st;refine s.get (F:=λd G'=>pR d G' (bZ R)) λd G1 l e1=>?_;have hb:=qD (k:=kq q) hr v;exact afE e1 (za hb.2.2.2 hn) λqs p1 p2 rr hrr=>bZ.here (h rr qs _ (l.trans (.new hrr)) (le_none l hrr) aD ⟨p2,λl v'=>p1.mem_iff.trans (r.mem v hr)⟩ (by rw[p1.length_eq];exact za hb.2.2.2 hn))
theorem asF(v:Shv room n M c)(hr:0<=room)(r:Rl M c W):kq s∈M.map (·.1)↔∃l w,((s,l),w)∈W:=by
 constructor
 .intro m;obtain⟨z,hz,e⟩:=dw.mp m;have eh:cI M c (kq s)=c z.2:=by rw[←e];exact aiP v.kn hz
  obtain⟨q,t,e2⟩:=List.exists_cons_of_ne_nil (v.bn z hz).1.ne;exact⟨q.1,q.2,(r.mem v hr).mp (by rw[eh,e2];exact .head _)⟩
 .rintro⟨l,w,m⟩;have m2:=(r.mem v hr).mpr m;refine Classical.byContradiction λz=>?_;have:cI M c (kq s)=[]:=by unfold cI;rw[jU.mpr z]
  rw[this]at m2;cases m2
theorem asG{a b:Int×Int}(h:kq a=kq b):a=b:=by
 have:a.1=b.1/\a.2=b.2:=by simpa[L9.ky]using h
 exact Prod.ext this.1 this.2
theorem asH{qs:List (Int×Int)}:kq s∈qs.map kq↔s∈qs:=⟨λh=>by obtain⟨z,hz,e⟩:=dw.mp h;rw[←asG e];exact hz,λh=>dw.mpr ⟨s,h,rfl⟩⟩
theorem ab5(s:SH A sh x y g room st M c G)(v:Shv room n M c)(hn:n<64)(hr:0<=room)(r:Rl M c W)(hl:0<=lot/\lot<=999)(h:∀rr ws G',Le G G'->G rr=bh->G' rr=aj (.lst (ws.map pcE))->IsP W lot ws->ws.length<64->R (.ref rr) G'):cF K A [.ref sh,.int lot] G R EX:=by
 refine asC s v hn hl λqs rr G' l pq ri f e=>h rr _ G' l f e ⟨?_,λq w=>?_⟩ (by
  have e1:=pq.length_eq;have e2:=v.len;have e3:=yx (λq=>(aJ (cI M c (kq q)) lot).isSome) qs;rw[dj,dj]at e1;rw[dj];omega)
 .rw[zp];exact a1r.filter _ ri
 .constructor
  .intro m;obtain⟨q',hq,e⟩:=dw.mp m;cases e;obtain⟨w,ew⟩:=a0r.mp (qu.mp hq).2;have e0:cH (cI M c (kq q)) lot=w:=by unfold cH;rw[ew];rfl
   rw[e0];exact(r.mem v hr).mp (j5 ew)
  .intro m;have m2:=(r.mem v hr).mpr m;have ew:aJ (cI M c (kq q)) lot=aj w:=fL (qD (k:=kq q) hr v).1 m2;have e0:cH (cI M c (kq q)) lot=w:=by unfold cH;rw[ew];rfl
   refine dw.mpr ⟨q,qu.mpr ⟨asH.mp (pq.mem_iff.mpr ((asF v hr r).mpr ⟨_,_,m⟩)),by rw[ew];rfl⟩,by rw[e0]⟩
theorem IsL.mk'(ri:dG qs)(hq:∀s,s∈qs↔∃l w,((s,l),w)∈W)(e:zs.map (·.1)=qs)(h:∀z∈zs,IsH W z.1 z.2):IsL W zs:=by
 refine⟨by rw[e];exact ri,λz hz=>⟨λn=>?_,h z hz⟩,λs l w m=>by rw[e];exact(hq s).mpr ⟨l,w,m⟩⟩;obtain⟨l,w,m⟩:=(hq z.1).mp (by rw[←e];exact dw.mpr ⟨z,hz,rfl⟩);have:=((h z hz).2 l w).mpr m;rw[n]at this;cases this
theorem azS{G:Gp}:∀{qs:List (Int×Int)}{es:List D},Paired (λd y=>∃q hs r,d=cY q/\y=.tup [cY q,.ref r]/\G r=aj (.lst (hs.map cY))/\IsH W q hs) (qs.map cY) es->∃zs:List ((Int×Int)×List (Int×Int)),zs.map (·.1)=qs/\(∀z∈zs,IsH W z.1 z.2)/\Paired (λz e=>∃q,e=.tup [cY z.1,.ref q]/\G q=aj (.lst (z.2.map cY))) zs es
 |[],_,.nil=>⟨[],rfl,(λz hz=>nomatch hz),.nil⟩
 |q::qs,_,.cons ⟨q',hs,r,e1,e2,e3,e4⟩ t=>by
  obtain⟨zs,z1,z2,z3⟩:=azS t;obtain rfl:=ad6 _ _ e1;refine⟨(q,hs)::zs,by rw[iy,z1],λz hz=>?_,.cons ⟨r,e2,e3⟩ z3⟩;rcases je.mp hz with rfl|hz
  .exact e4
  .exact z2 z hz
theorem ab6(l:Le G G')(h:G' p=bh):Le G (rmG (aH G' p o) p):=λq u e=>by
 have n:q≠p:=λz=>by have:=l _ _ e;rw[z,h]at this;cases this
 exact qF n (by rw[aN n];exact l _ _ e)
theorem alI(l:Le G G')(h:G p=bh):Le G (aH G' p o):=λq u e=>by
 have n:q≠p:=λz=>by rw[z,h]at e;cases e
 rw[aN n];exact l _ _ e
theorem a8F{qs:List (Int×Int)}{t:bw}(e:N.map (·.1)=qs.map kq):(Src.key t od ak (N.map kY)).items=qs.map cY:=by
 show(N.map kY).map (λq:DK×D=>dkD q.1)=_;rw[jt,show(λq:DK×D=>dkD q.1)∘kY=(λks=>dkD (.inr ks))∘(λz:List Key×bw=>z.1)from rfl,←jt,e,jt];rfl
theorem ay0(a b:Int)(h:D.int a=D.int b):a=b:=D.int.inj h
theorem aET(s:SH A sh x y g room st M c G)(v:Shv room n M c)(hn:n<64)(hr:0<=room)(r:Rl M c W){ss:List (Int×Int)}{ls:List Int}(hs:G sp=aj (.lst (ss.map cY)))(hls:G lp=aj (.lst (ls.map D.int)))(ls3:ss.length<64)(ls2:ls.length<64)(bs:∀q∈ss,OkB x y q.1 q.2)(bl:∀l∈ls,0<=l/\l<=999)
  (h:∀rr ds G',Le G G'->G rr=bh->G' rr=aj (.lst ds)->Tld W ss ls ds (rmG G' rr)->R (.ref rr) G'):iD K A [.ref sh,.ref sp,.ref lp] G R EX:=by
 have big:10000<cu:=by decide
 refine⟨rfl,?_⟩;show wI K A _ _ [aj (.ref sh),aj (.ref sp),aj (.ref lp),bh] G;exists wI;rw[a7F (xs:=ss.map cY) (by unfold L2.aY;rw[hs])];refine a5Z (λd y G=>∃q,d=cY q/\Ask.is W G (.h q) y) (λd y G G' l ⟨q,e,z⟩=>⟨q,e,Ask.le l z⟩) (by show(ss.map cY).length<cu;rw[dj];omega) (by show aY G sp=aj _;unfold L2.aY;rw[hs]) (λd hd G1 l1 Q hQ=>?_) λp1 ys1 G1 l1 f1 g1 P1=>?_
 .obtain⟨q,hq,rfl⟩:=dw.mp hd;have s1:=s.le l1;walk_at "wr";exists dU s1.sh (m:="held") rfl;refine ad7 s1 v hn hr r (bs q hq) λrr qs G2 l2 f2 g2 i2 _=>hQ (.ref rr) G2 l2 λp hp=>⟨q,rfl,rr,qs,rfl,qF (λz=>hp (by rw[←z];exact f2)) g2,i2⟩
 have P1':=a3F (g:=Ask.h) ad6 P1;walk_at "wr";rw[a7F (xs:=ls.map D.int) (by unfold L2.aY;rw[l1 _ _ hls])];refine a5Z (λd y G=>∃q,d=D.int q/\Ask.is W G (.p q) y) (λd y G G' l ⟨q,e,z⟩=>⟨q,e,Ask.le l z⟩) (by show(ls.map D.int).length<cu;rw[dj];omega) (by show aY G1 lp=aj _;unfold L2.aY;rw[l1 _ _ hls]) (λd hd G2 l2 Q hQ=>?_) λp2 ys2 G2 l2 f2 g2 P2=>?_
 .obtain⟨q,hq,rfl⟩:=dw.mp hd;have s1:=s.le (l1.trans l2);walk_at "wr";exists dU s1.sh (m:="places") rfl;refine ab5 s1 v hn hr r (bl q hq) λrr qs G3 l3 f3 g3 i3 _=>hQ (.ref rr) G3 l3 λp hp=>⟨q,rfl,rr,qs,rfl,qF (λz=>hp (by rw[←z];exact f3)) g3,i3⟩
 have P2':=a3F (g:=Ask.p) ay0 P2;have len1:=Paired.length P1';have len2:=Paired.length P2';rw[dj]at len1 len2;rw[akU (l2 _ _ g1) g2 (by omega)];intro p3 f3;have l3:Le G2 (aH G2 p3 (.lst (ys1++ys2))):=.new f3;exists z8;have s3:=s.le ((l1.trans l2).trans l3);refine⟨by rw[dU s3.sh (m:="lying") rfl];trivial,?_⟩;refine a5Y s3 v hn λt qs N c' G4 l4 ly=>?_;rw[acV ly.tt];intro od;have l5:=alI (o:=.yM od ak (N.map kY)) l4 ly.t0;have it:=a8F (t:=t) (od:=od) ly.kq
 have lq:qs.length<64:=by
  have e1:=congrArg a1c ly.kq;have e2:=ly.ke.length_eq;simp at e1 e2;have:=v.len;omega
 refine a5Z (λd y G=>∃q hs r,d=cY q/\y=.tup [cY q,.ref r]/\G r=aj (.lst (hs.map cY))/\IsH W q hs) (by rintro d y G5 G' l ⟨q,hs,r,e1,e2,e3,e4⟩;exact⟨q,hs,r,e1,e2,l _ _ e3,e4⟩) (by rw[it,dj];omega) aD (λd hd G6 l6 Q hQ=>?_) λp5 es G8 l8 f8 g8 P8=>?_
 .rw[it]at hd;obtain⟨q,hq,rfl⟩:=dw.mp hd;have s6:=s3.le (l5.trans l6);walk_at "wr";refine⟨by rw[dU s6.sh (m:="lying") rfl];trivial,?_⟩;refine a5Y s6 v hn λt2 qs2 N2 c2 G7 l7 ly2=>?_;have mq:kq q∈N2.map (·.1):=ly2.ke.mem_iff.mpr (ly.ke.mem_iff.mp (by rw[ly.kq];exact dw.mpr ⟨q,hq,rfl⟩));obtain⟨z,hz,ez⟩:=dw.mp mq;have vd:aJ N2 (kq q)=aj z.2:=by rw[←ez];exact fL (ly2.ke.nodup_iff.mpr v.kn) hz
  obtain⟨i1,i2,i3,_⟩:=ly2.ins z hz;rw[ez]at i2;rw[show cY q=.tup [.int q.1,.int q.2]from rfl,xJ ly2.tt iZ rfl (by rw[jQ,vd];rfl)];walk_at "wr";refine arV i1 (by rw[i2.length_eq];have:=(qD (k:=kq q) hr v).2.2.2;omega) λl hl=>?_;walk_at "wr";exact hQ (.tup [cY q,.ref l]) _ (l7.trans (.new hl)) λp hp=>⟨q,c2 z.2,l,rfl,rfl,qF (λz=>hp (by rw[←z];exact le_none l7 hl)) aD,i3,λl' w=>i2.mem_iff.trans (r.mem v hr)⟩
 rw[it]at P8;obtain⟨zs,z1,z2,z3⟩:=azS P8;intro p6 f6;have l6:Le G8 (aH G8 p6 (.lst [.ref p5])):=.new f6;have la:=l5.trans (l8.trans l6);rw[akU (la _ _ aD) aD (by rw[uc];simp;omega)];intro p7 f7;have isl:IsL W zs:=IsL.mk' ly.ri (λq=>asH.symm.trans ((ly.kq ▸ ly.ke.mem_iff).trans (asF v hr r))) z1 z2;refine bZ.here (h p7 _ _ (((l1.trans l2).trans l3).trans (la.trans (.new f7))) (le_none (((l1.trans l2).trans l3).trans la) f7) aD ?_);refine lW (lW (Paired.z9 P1' λ_ _ z=>Ask.le (sJ.trans (ab6 ((l2.trans l3).trans la) f7)) z) (Paired.z9 P2' λ_ _ z=>Ask.le (sJ.trans (ab6 (l3.trans la) f7)) z)) (.cons (Ask.le (ab6 l6 f7) ⟨p5,zs,es,rfl,g8,isl,Paired.z9 z3 (by rintro _ _ ⟨q,e,z⟩;exact⟨q,e,sJ _ _ z⟩)⟩) .nil)
noncomputable def dn(d:D):(Int×Int)×Int:=match d with
 |.tup [.tup [.int a,.int p],.int l]=>((a,p),l)
 |_=>((0,0),0)
theorem a8G{i:Nat}{W:List Wk}(h1:at3 ρ i=aj (.ref p))(hp:G p=aj (.uV (wN W)))(nd:(W.map (·.1)).Nodup)(hl:W.length<64)(cc:(Int×Int)×Int->Bool)(f:Wk->D)
  (hc:∀z∈W,∀G',nmG G' p (wN W)->∀Q:Bool->Gp->Prop,Q (cc z.1) G'->tc (aj (.tup [.tup [.int z.1.1.1,.int z.1.1.2],.int z.1.2])::ρ) G' Q)
  (he:∀z∈W,cc z.1=ak->∀G',nmG G' p (wN W)->∀Q:D->Gp->Prop,Q (f z) G'->te (aj (.tup [.tup [.int z.1.1.1,.int z.1.1.2],.int z.1.2])::ρ) G' Q)
  (h:∀q,G q=bh->R (.ref q) (aH G q (.lst ((W.filter λz=>cc z.1).map f)))):rJ i (jN (iY (aB i)) tc te) ρ G R:=by
 have big:10000<cu:=by decide
 refine aEL h1 hp ?_;show a0G ac2 (iY (aB i)) tc te ρ G _;rw[arJ,aaX];unfold L2.aB;rw[h1];refine⟨wN W,hp,λod=>?_⟩
 have it:(Src.nky p od (wN W)).items=W.map λz=>D.tup [.tup [.int z.1.1.1,.int z.1.1.2],.int z.1.2]:=by
  show(wN W).map _=_;rw[jt];rfl
 have od1:∀G',Le (aH G p (.rnm od (wN W))) G'->nmG G' p (wN W):=λG' l=>.inr ⟨od,l _ _ aD⟩;refine akR (λd=>cc (dn d)) (λd=>f (dn d,(aJ W (dn d)).getD 0)) (by rw[it,dj];omega) aD (λd hd G' l Q hQ=>?_) (λd hd hf G' l Q hQ=>?_) λq hq=>?_
 .rw[it]at hd;obtain⟨z,hz,rfl⟩:=dw.mp hd;exact hc z hz G' (od1 G' l) Q (hQ G' (.refl _))
 .rw[it]at hd;obtain⟨z,hz,rfl⟩:=dw.mp hd;have e:(aJ W z.1).getD 0=z.2:=by rw[fL nd hz];rfl
  have hQ':=hQ G' (.refl _);have e2:f (z.1,(aJ W z.1).getD 0)=f z:=by rw[e]
  exact he z hz hf G' (od1 G' l) Q (e2 ▸ hQ')
 .have nq:q≠p:=λz=>by rw[z,aD]at hq;cases hq
  rw[aN nq]at hq;have hh:=h q hq
  have e1:((Src.nky p od (wN W)).items.filter λd=>cc (dn d)).map (λd=>f (dn d,(aJ W (dn d)).getD 0))=(W.filter λz=>cc z.1).map f:=by
   rw[it,a2q,jt];refine um λz hz=>?_;have e:(aJ W z.1).getD 0=z.2:=by rw[fL nd (qu.mp hz).1];rfl
   show f (z.1,(aJ W z.1).getD 0)=f z;rw[e]
  rw[e1]
  have e2:aH (aH (aH G p (.rnm od (wN W))) q (.lst ((W.filter λz=>cc z.1).map f))) p (.uV (wN W))=aH G q (.lst ((W.filter λz=>cc z.1).map f)):=by
   funext a;by_cases c1:a=p
   .rw[c1,aD,aN (Ne.symm nq),hp]
   .rw[aN c1];by_cases c2:a=q
    .rw[c2,aD,aD]
    .rw[aN c2,aN c2,aN c1]
  refine⟨⟨od,by rw[aN (Ne.symm nq),aD]⟩,?_⟩;rw[e2];exact hh
theorem asI{W:List Wk}{z:Wk}(nd:(W.map (·.1)).Nodup)(hz:z∈W)(h:nmG G p (wN W))(k:R (.int z.2) G):yQ (.ref p) (.tup [.tup [.int z.1.1.1,.int z.1.1.2],.int z.1.2]) G R:=⟨nk z.1,wN W,z.2,rfl,h,by rw[alG];exact fL nd hz,k⟩
theorem aEU{a' b':Int}:eqP (.tup [.int a,.int b]) (.tup [.int a',.int b'])=decide ((a,b)=(a',b')):=by
 show(decide (a=a')&&(decide (b=b')&&ak))=_;simp
theorem asJ{α β γ:Type}{W:List α}{f:α->β}{g:α->γ}{c:α->Bool}(nd:(W.map f).Nodup)(h:∀a∈W,∀b∈W,c a=ak->c b=ak->g a=g b->f a=f b):((W.filter c).map g).Nodup:=by
 rw[List.Nodup,zp]at nd ⊢;refine a1r.imp_of_mem ?_ (a1r.filter c nd);intro a b ha hb n e;obtain⟨a1,a2⟩:=qu.mp ha;obtain⟨b1,b2⟩:=qu.mp hb;exact n (h a a1 b b1 a2 b2 e)
theorem aJQ{W:List Wk}(nd:(W.map (·.1)).Nodup)(hl:W.length<64)(hq:aY G q=aj ((W.filter λz=>decide (z.1.1=s)).map λz=>cY (z.1.2,z.2)))(h:∀qs r,G r=bh->IsH W s qs->R (.ref r) (aH G r (.lst (qs.map cY)))):tL [.ref q] G R:=by
 unfold L2.tL;simp only[hq];refine⟨(W.filter λz=>decide (z.1.1=s)).map λz=>(z.1.2,z.2),by rw[jt];rfl,?_,?_,λqs p1 p2 r hr=>h qs r hr ⟨p2,λl w=>p1.mem_iff.trans ?_⟩⟩
 .refine asJ nd λa _ b _ ha hb e=>?_;have ha:=of_decide_eq_true ha;have hb:=of_decide_eq_true hb;exact Prod.ext (ha.trans hb.symm) (congrArg (·.1) e)
 .rw[dj];exact za (yx _ _) hl
 .constructor
  .intro m;obtain⟨z,hz,e⟩:=dw.mp m;obtain⟨h1,h2⟩:=qu.mp hz;have h2:=of_decide_eq_true h2;cases e;rw[←h2];exact h1
  .intro m;exact dw.mpr ⟨_,qu.mpr ⟨m,decide_eq_true rfl⟩,rfl⟩
theorem aNG{W:List Wk}(nd:(W.map (·.1)).Nodup)(hl:W.length<64)(hb:∀z∈W,-1000<=z.1.1.2/\z.1.1.2<=1000)(hq:aY G q=aj ((W.filter λz=>decide (z.1.2=l)).map λz=>pcE (z.1.1,z.2)))(h:∀ws r,G r=bh->IsP W l ws->R (.ref r) (aH G r (.lst (ws.map pcE)))):a0P [.ref q] G R:=by
 obtain⟨us,eu⟩:∃us,us=(W.filter λz=>decide (z.1.2=l)).map λz=>(z.1.1,z.2):=⟨_,rfl⟩
 have em:∀s w,(s,w)∈us↔((s,l),w)∈W:=λs w=>by
  rw[eu];constructor
  .intro m;obtain⟨z,hz,e⟩:=dw.mp m;obtain⟨h1,h2⟩:=qu.mp hz;have h2:=of_decide_eq_true h2;cases e;rw[←h2];exact h1
  .intro m;exact dw.mpr ⟨_,qu.mpr ⟨m,decide_eq_true rfl⟩,rfl⟩
 have ed:((W.filter λz=>decide (z.1.2=l)).map λz=>pcE (z.1.1,z.2))=us.map pcE:=by rw[eu,jt];rfl
 have hn:(us.map (·.1)).Nodup:=by
  rw[eu,jt];refine asJ nd λa _ b _ ha hb e=>?_;have ha:=of_decide_eq_true ha;have hb:=of_decide_eq_true hb;exact Prod.ext e (ha.trans hb.symm)
 have lu:us.length<64:=by
  rw[eu,dj];exact za (yx _ _) hl
 have hB:∀p∈us.map (·.1),-1000<=p.2/\p.2<=1000:=λp hp=>by
  obtain⟨u,hu,rfl⟩:=dw.mp hp;exact hb _ ((em u.1 u.2).mp hu)
 rw[ed]at hq;clear ed eu;refine⟨_,hq,us.map (λu=>([u.1.1,u.1.2],u.2)),λi=>enc 3000 ((us.map (·.1)).getD i (0,0)),by rw[jt];rfl,by rw[dj];exact lu,λi j a b ha hb'=>?_,λi j hi hj e=>?_,λqa P u r hr=>?_⟩
 .rw[vp]at ha hb';obtain⟨ua,ea,rfl⟩:=a1b.mp ha;obtain⟨ub,eb,rfl⟩:=a1b.mp hb';have ga:(us.map (·.1)).getD i (0,0)=ua.1:=by simp[qz,ea]
  have gb:(us.map (·.1)).getD j (0,0)=ub.1:=by simp[qz,eb]
  show _=decide (enc 3000 ((us.map (·.1)).getD i (0,0))<enc 3000 ((us.map (·.1)).getD j (0,0)));rw[ga,gb,a2n,decide_eq_true_iff,qQ (M:=3000) (B:=1000) (by omega) (hB ua.1 (dw.mpr ⟨_,jx ea,rfl⟩)) (hB ub.1 (dw.mpr ⟨_,jx eb,rfl⟩))];have ma:=jx ea;have mb:=jx eb;obtain⟨⟨a1,a2⟩,a3⟩:=ua;obtain⟨⟨b1,b2⟩,b3⟩:=ub;unfold ltN pI;by_cases c1:a1=b1
  .by_cases c2:a2=b2
   .subst c1;subst c2;have f1:aJ us (a1,a2)=aj a3:=fL hn ma;have f2:aJ us (a1,a2)=aj b3:=fL hn mb;have e3:a3=b3:=iz.inj (f1.symm.trans f2);subst e3;rw[if_pos rfl];simp
   .subst c1;rw[if_neg (by simp[c2])];show(if a1=a1 then(if a2=b2 then ao else decide (a2<b2))else decide (a1<a1))=ak↔_;rw[if_pos rfl,if_neg c2];simp
  .rw[if_neg (by simp[c1])];show(if a1=b1 then(if a2=b2 then ao else decide (a2<b2))else decide (a1<b1))=ak↔_;rw[if_neg c1];simp[c1]
 .rw[dj]at hi hj;have hi':i<(us.map (·.1)).length:=by rw[dj];exact hi
  have hj':j<(us.map (·.1)).length:=by rw[dj];exact hj
  have e:enc 3000 ((us.map (·.1)).getD i (0,0))=enc 3000 ((us.map (·.1)).getD j (0,0)):=e;rw[getD_at hi',getD_at hj']at e;have k1:=qQ (M:=3000) (B:=1000) (by omega) (hB _ (wz hi')) (hB _ (wz hj'));have k2:=qQ (M:=3000) (B:=1000) (by omega) (hB _ (wz hj')) (hB _ (wz hi'))
  have e2:(us.map (·.1))[i]=(us.map (·.1))[j]:=by
   have n1:=mt k1.mpr (by omega);have n2:=mt k2.mpr (by omega);unfold pI at n1 n2;exact Prod.ext (by omega) (by omega)
  have key:=yc.mp hn;rcases zm i j with w|w|w
  .exact absurd e2 (key _ _ hi' hj' w)
  .exact w
  .exact absurd e2.symm (key _ _ hj' hi' w)
 .rw[dj]at P u;have P':Pm (us.map (·.1)).length qa:=by rw[dj];exact P
  obtain⟨r1,r2⟩:=a2N (M:=3000) (B:=1000) (by omega) hB hn P' (by rw[dj];exact u);have hin:∀i∈qa.toList,i<us.length:=λi hi=>xg.mp (P.perm.mem_iff.mp hi)
  have e1:(qa.toList.map λi=>(us.map pcE).getD i .non)=(qa.toList.map λi=>us.getD i ((0,0),0)).map pcE:=by
   rw[jt];refine um λi hi=>?_;have:=hin i hi;simp[qz,this]
  rw[e1]
  have e2:(qa.toList.map λi=>us.getD i ((0,0),0)).map (·.1)=qa.toList.map λi=>(us.map (·.1)).getD i (0,0):=by
   rw[jt];refine um λi hi=>?_;have:=hin i hi;simp[qz,this]
  have pm:(qa.toList.map λi=>us.getD i ((0,0),0)).Perm us:=by
   have:=P.perm.map λi=>us.getD i ((0,0),0)
   have id0:(jw us.length).map (λi=>us.getD i ((0,0),0))=us:=by
    apply List.ext_getElem (by simp);intro i h1 h2;simp[h2]
   rw[id0]at this;exact this
  refine h _ r hr ⟨?_,λs w=>pm.mem_iff.trans (em s w)⟩;rw[←e2]at r2;exact zp.mp r2
structure Gr{κ:Type}(rel:Gp->κ->D->Prop)(G0:Gp)(hd:bw)(ks:List κ)(ds:List D)(G:Gp):Prop where
 le:Le G0 (rmG G hd)
 at':G hd=aj (.lst ds)
 pr:Paired (rel (rmG G hd)) ks ds
theorem ad8:rmG (aH G p o) p=rmG G p:=by
 funext q;unfold rmG;by_cases z:q=p
 .rw[if_pos z,if_pos z]
 .rw[if_neg z,if_neg z,aN z]
theorem Gr.app{κ:Type}{rel:Gp->κ->D->Prop}(hm:∀G G' k d,Le G G'->rel G k d->rel G' k d){ks:List κ}(h:Gr rel G0 hd ks ds G)(l:Le G G'){k:κ}{y:D}(r:rel (rmG G' hd) k y):Gr rel G0 hd (ks++[k]) (ds++[y]) (aH G' hd (.lst (ds++[y]))):=by
 refine⟨?_,aD,?_⟩
 .rw[ad8];exact h.le.trans (ad5 l)
 .rw[ad8];exact lW (Paired.z9 h.pr λ_ _ z=>hm _ _ _ _ (ad5 l) z) (.cons r .nil)
theorem Gr.new{κ:Type}{rel:Gp->κ->D->Prop}(h:G hd=bh):Gr rel G hd [] [] (aH G hd (.lst [])):=⟨by rw[ad8];exact λq u e=>qF (λz=>by rw[z,h]at e;cases e) e,aD,.nil⟩
theorem Gr.len{κ:Type}{rel:Gp->κ->D->Prop}{ks:List κ}{ds:List D}(h:Gr rel G0 hd ks ds G):ds.length=ks.length:=(Paired.length h.pr).symm
theorem Gr.all{κ:Type}{rel:Gp->κ->D->Prop}{ks:List κ}(h:Gr rel G0 hd ks ds G):Le G0 G:=h.le.trans sJ
theorem take_snoc{α β:Type}{f:α->β}{l:List α}{k:Nat}{q:α}(e:l[k]?=aj q):(l.take (k+1)).map f=(l.take k).map f++[f q]:=by
 rw[a1o,e,mz];rfl
theorem hcomp{W:List Wk}{k:Nat}(hm:G m=aj (.uV (wN W)))(nd:(W.map (·.1)).Nodup)(hl:W.length<64)(h0:at3 ρ 0=aj (.ref m))(h5:at3 ρ k=aj (cY s))(h:∀q,G q=bh->R (.ref q) (aH G q (.lst ((W.filter λz=>decide (z.1.1=s)).map λz=>cY (z.1.2,z.2))))) :
  rJ 0 (jN (iY (aB 0)) (bH (aL xR (aL d7 (aB 0) (bN (D.int 0))) (aB (k+1)))) (gJ (aA (aL d7 (aB 0) (bN (D.int 1))) (aA (aL yQ (aB 1) (aB 0)) aG)))) ρ G R:=by
 refine a8G h0 hm nd hl (λk=>decide (k.1=s)) (λz=>cY (z.1.2,z.2)) (λz hz G' hg Q hQ=>?_) (λz hz hf G' hg Q hQ=>?_) h
 .walk_at "wr";unfold L2.aB;rw[h5];refine⟨rfl,rfl,?_⟩;show Q (eqP (.tup [.int z.1.1.1,.int z.1.1.2]) (.tup [.int s.1,.int s.2])) G';rw[aEU];exact hQ
 .walk_at "wr";unfold L2.aB;rw[h0];exact asI nd hz hg hQ
theorem aJR{W:List Wk}{k:Nat}(hm:G m=aj (.uV (wN W)))(nd:(W.map (·.1)).Nodup)(hl:W.length<64)(h0:at3 ρ 0=aj (.ref m))(h5:at3 ρ k=aj (.int l))(h:∀q,G q=bh->R (.ref q) (aH G q (.lst ((W.filter λz=>decide (z.1.2=l)).map λz=>pcE (z.1.1,z.2))))) :
  rJ 0 (jN (iY (aB 0)) (bH (aL xR (aL d7 (aB 0) (bN (D.int 1))) (aB (k+1)))) (gJ (aA (aL d7 (aB 0) (bN (D.int 0))) (aA (aL yQ (aB 1) (aB 0)) aG)))) ρ G R:=by
 refine a8G h0 hm nd hl (λk=>decide (k.2=l)) (λz=>pcE (z.1.1,z.2)) (λz hz G' hg Q hQ=>?_) (λz hz hf G' hg Q hQ=>?_) h
 .walk_at "wr";unfold L2.aB;rw[h5];show xR (.int z.1.2) (.int l) G' _;walk_at "wr";exact hQ
 .walk_at "wr";unfold L2.aB;rw[h0];exact asI nd hz hg hQ
theorem aJS{W:List Wk}(hm:G m=aj (.uV (wN W)))(nd:(W.map (·.1)).Nodup)(hl:W.length<64)(h0:at3 ρ 0=aj (.ref m))(h:∀q,G q=bh->R (.ref q) (aH G q (.lst ((W.map (·.1.1)).map λq=>.tup [.tup [.int q.1,.int q.2],.bl ak])))) :
  rJ 0 (jN (iY (aB 0)) qM (gJ (aA (aL d7 (aB 0) (bN (D.int 0))) (aA (bN (.bl ak)) aG)))) ρ G R:=by
 refine a8G h0 hm nd hl (λ_=>ak) (λz=>.tup [.tup [.int z.1.1.1,.int z.1.1.2],.bl ak]) (λz hz G' hg Q hQ=>hQ) (λz hz hf G' hg Q hQ=>?_) λq hq=>?_
 .walk_at "wr";exact hQ
 .have:=h q hq;rw[jt]at this;rw[List.filter_eq_self.mpr λ_ _=>rfl];exact this
theorem a1O(o':GO)(hq:G q=bh)(hr:aH G q o r=bh):Le G (aH (aH G q o) r o')/\G r=bh:=⟨(Le.new hq).trans (.new hr),le_none (.new hq) hr⟩
theorem asK(h:G p=aj (.lst ds)):abZ "list" G (.ref p):=by
 rw[awZ];unfold L2.aY;rw[h];rfl
theorem aEV{W:List Wk}{ds:List D}(hm:G m=aj (.uV (wN W)))(nd:(W.map (·.1)).Nodup)(hl:W.length<64)(hh:G hd=aj (.lst ds))(hn:ds.length<1000)
  (h:∀r qs G',Le G G'->G r=bh->G' r=aj (.lst (qs.map cY))->IsH W s qs->F.nx [aj (.ref m),r1,r2,aj (.ref hd),aj (cY s),r5,r6,r7] (aH G' hd (.lst (ds++[.ref r])))):qU K A ex F [aj (.ref m),r1,r2,aj (.ref hd),aj (cY s),r5,r6,r7] G:=by
 have big:10000<cu:=by decide
 exists qU;refine⟨asK hh,?_⟩;refine hcomp (k:=4) hm nd hl rfl rfl λq hq=>?_;refine aJQ nd hl dM λqs r hr ih=>?_;obtain⟨l2,f2⟩:=a1O (.lst (qs.map cY)) hq hr;rw[vU (l2 _ _ hh) (by omega)];exact h r qs _ l2 f2 aD ih
theorem aEW{W:List Wk}{s:Int}{ds:List D}(hm:G m=aj (.uV (wN W)))(nd:(W.map (·.1)).Nodup)(hl:W.length<64)(hb:∀z∈W,-1000<=z.1.1.2/\z.1.1.2<=1000)(hh:G hd=aj (.lst ds))(hn:ds.length<1000)
  (h:∀r qs G',Le G G'->G r=bh->G' r=aj (.lst (qs.map pcE))->IsP W s qs->F.nx [aj (.ref m),r1,r2,r3,r4,aj (.ref hd),aj (.int s),r7] (aH G' hd (.lst (ds++[.ref r])))):qW K A ex F [aj (.ref m),r1,r2,r3,r4,aj (.ref hd),aj (.int s),r7] G:=by
 have big:10000<cu:=by decide
 exists qW;refine⟨asK hh,?_⟩;refine aJR (k:=6) hm nd hl rfl rfl λq hq=>?_;refine aNG nd hl hb dM λqs r hr ih=>?_;obtain⟨l2,f2⟩:=a1O (.lst (qs.map pcE)) hq hr;rw[vU (l2 _ _ hh) (by omega)];exact h r qs _ l2 f2 aD ih
theorem aEX{W:List Wk}{ds:List D}(hm:G m=aj (.uV (wN W)))(nd:(W.map (·.1)).Nodup)(hl:W.length<64)(hh:G hd=aj (.lst ds))(hn:ds.length<1000)
  (h:∀r qs G',Le G G'->G r=bh->G' r=aj (.lst (qs.map cY))->IsH W s qs->F.nx [aj (.ref m),r1,r2,r3,aj (cY s),r5,r6,aj (.ref hd)] (aH G' hd (.lst (ds++[.tup [cY s,.ref r]])))):m9 K A ex F [aj (.ref m),r1,r2,r3,aj (cY s),r5,r6,aj (.ref hd)] G:=by
 have big:10000<cu:=by decide
 exists m9;refine⟨asK hh,?_⟩;refine hcomp (k:=4) hm nd hl rfl rfl λq hq=>?_;refine aJQ nd hl dM λqs r hr ih=>?_;obtain⟨l2,f2⟩:=a1O (.lst (qs.map cY)) hq hr;walk_at "wr";rw[vU (l2 _ _ hh) (by omega)];exact h r qs _ l2 f2 aD ih
def aEY(W:List Wk)(G:Gp)(q:Int×Int)(e:D):Prop:=∃hs r,e=.tup [cY q,.ref r]/\G r=aj (.lst (hs.map cY))/\IsH W q hs
theorem asL{G:Gp}:∀{qs:List (Int×Int)}{es:List D},Paired (aEY W G) qs es->∃zs:List ((Int×Int)×List (Int×Int)),zs.map (·.1)=qs/\(∀z∈zs,IsH W z.1 z.2)/\Paired (λz e=>∃q,e=.tup [cY z.1,.ref q]/\G q=aj (.lst (z.2.map cY))) zs es
 |[],_,.nil=>⟨[],rfl,(λz hz=>nomatch hz),.nil⟩
 |q::qs,_,.cons ⟨hs,r,e2,e3,e4⟩ t=>by
  obtain⟨zs,z1,z2,z3⟩:=asL t;refine⟨(q,hs)::zs,by rw[iy,z1],λz hz=>?_,.cons ⟨r,e2,e3⟩ z3⟩;rcases je.mp hz with rfl|hz
  .exact e4
  .exact z2 z hz
theorem a3G:∀{M N:List (Int×Int)},(M.foldl xV N).length<=N.length+M.length
 |[],N=>dz _
 |q::M,N=>by
  rw[a1x,lg];have h1:=a3G (M:=M) (N:=xV N q);have h2:=arP N q;omega
theorem ag2:∀{M N:List (Int×Int)},N.Nodup->(M.foldl xV N).Nodup
 |[],_,h=>h
 |q::M,_,h=>ag2 (M:=M) (ai8 h)
theorem iH(h:G p=aj (.lst ds)):aY G p=aj ds:=by
 unfold L2.aY;rw[h]
theorem ag3(G G':Gp)(k:Ask)(d:D)(l:Le G G')(z:Ask.is W G k d):Ask.is W G' k d:=Ask.le l z
theorem aJT{W:List Wk}{qs:List (Int×Int)}(hm:G m=aj (.uV (wN W)))(nd:(W.map (·.1)).Nodup)(hl:W.length<64)(hly:G ly=aj (.lst []))(hr:G r=aj (.lst (qs.map cY)))(rl:r≠ly)(lq:qs.length<64)
  (h:∀es G' r4,Gr (aEY W) (rmG G ly) ly qs es G'->F.nx [aj (.ref m),r1,r2,r3,r4,r5,r6,aj (.ref ly)] G'):akS (.lst r (qs.map cY)) (qN 4) (m9 K A ex) F [aj (.ref m),r1,r2,r3,r4,r5,r6,aj (.ref ly)] G:=by
 have ml:m≠ly:=λz=>by rw[z,hly]at hm;cases hm
 refine a0U (λk ρ G'=>∃r4 ds,ρ=[aj (.ref m),r1,r2,r3,r4,r5,r6,aj (.ref ly)]/\Gr (aEY W) (rmG G ly) ly (qs.take k) ds G') ⟨r4,[],rfl,.refl _,hly,.nil⟩ (λk ρ G' ⟨r4,ds,_,g⟩=>iH (g.all _ _ (qF rl hr))) (λk d ρ G' hd' hh=>?_) λρ G1 hh=>?_
 .obtain⟨r4,ds,rfl,gr⟩:=hh;obtain⟨q,eq,rfl⟩:=a2S hd';walk_at "wr";refine aEX (gr.all _ _ (qF ml hm)) nd hl gr.at' (by have:=gr.len;simp at this;omega) λr qs' G2 l2 f2 g2 ih=>⟨_,ds++[.tup [cY q,.ref r]],rfl,?_⟩;have ht:qs.take (k+1)=qs.take k++[q]:=by rw[a1o,eq];rfl
  rw[ht];exact gr.app (λ_ _ _ _ l ⟨hs,r,e1,e2,e3⟩=>⟨hs,r,e1,l _ _ e2,e3⟩) l2 ⟨qs',r,rfl,qF (λz=>by rw[z,gr.at']at f2;cases f2) g2,ih⟩
 .obtain⟨r4,ds,rfl,gr⟩:=hh;rw[dj,a0a]at gr;exact h ds G1 r4 gr
theorem aJU{W:List Wk}{ss:List (Int×Int)}{ls:List Int}(hm:G m=aj (.uV (wN W)))(nd:(W.map (·.1)).Nodup)(hl:W.length<64)(hb:∀z∈W,-1000<=z.1.1.2/\z.1.1.2<=1000)(hs:G sp=aj (.lst (ss.map cY)))(hls:G lp=aj (.lst (ls.map D.int)))(ls3:ss.length<64)(ls2:ls.length<64)
  (h:∀rr ds G',Le G G'->G rr=bh->G' rr=aj (.lst ds)->Tld W ss ls ds (rmG G' rr)->R (.ref rr) G'):jE K A [.ref m,.ref sp,.ref lp] G R EX:=by
 have big:10000<cu:=by decide
 refine⟨rfl,?_⟩;show zR K A _ _ [aj (.ref m),aj (.ref sp),aj (.ref lp),bh,bh,bh,bh,bh] G;exists zR;intro hd f1;exists a1F;rw[xH (iH ((Le.new f1) _ _ hs))];refine a0U (λk ρ G'=>∃r4 ds,ρ=[aj (.ref m),aj (.ref sp),aj (.ref lp),aj (.ref hd),r4,bh,bh,bh]/\Gr (Ask.is W) G hd ((ss.take k).map .h) ds G') ⟨bh,[],rfl,.new f1⟩ (λk ρ G' ⟨r4,ds,_,g⟩=>iH (g.all _ _ hs)) (λk d ρ G' hd' hh=>?_) λρ G1 hh=>?_
 .obtain⟨r4,ds,rfl,gr⟩:=hh;obtain⟨q,eq,rfl⟩:=a2S hd';walk_at "wr";refine aEV (gr.all _ _ hm) nd hl gr.at' (by have:=gr.len;simp at this;omega) λr qs G2 l2 f2 g2 ih=>⟨_,ds++[.ref r],rfl,?_⟩;rw[take_snoc eq];exact gr.app ag3 l2 (k:=.h q) (show Ask.is W _ (.h q) _ from⟨r,qs,rfl,qF (λz=>by rw[z,gr.at']at f2;cases f2) g2,ih⟩)
 obtain⟨r4,ds1,rfl,gr1⟩:=hh;rw[dj,a0a]at gr1;have l1:=gr1.all;exists a1E;intro pl f2;exists a1D;rw[xH (iH ((Le.new f2) _ _ (l1 _ _ hls)))];refine a0U (λk ρ G'=>∃r6 ds,ρ=[aj (.ref m),aj (.ref sp),aj (.ref lp),aj (.ref hd),r4,aj (.ref pl),r6,bh]/\Gr (Ask.is W) G1 pl ((ls.take k).map .p) ds G') ⟨bh,[],rfl,.new f2⟩ (λk ρ G' ⟨r4,ds,_,g⟩=>iH (g.all _ _ (l1 _ _ hls))) (λk d ρ G' hd' hh=>?_) λρ G2 hh=>?_
 .obtain⟨r6,ds,rfl,gr⟩:=hh;obtain⟨q,eq,rfl⟩:=a2S hd';walk_at "wr";refine aEW (gr.all _ _ (l1 _ _ hm)) nd hl hb gr.at' (by have:=gr.len;simp at this;omega) λr qs G2 l2 f2 g2 ih=>⟨_,ds++[.ref r],rfl,?_⟩;rw[take_snoc eq];exact gr.app ag3 l2 (k:=.p q) (show Ask.is W _ (.p q) _ from⟨r,qs,rfl,qF (λz=>by rw[z,gr.at']at f2;cases f2) g2,ih⟩)
 obtain⟨r6,pN,rfl,gr2⟩:=hh;rw[dj,a0a]at gr2;have l2:=gr2.all;exists a1C;intro ly f3;have l3:Le G2 (aH G2 ly (.lst [])):=.new f3;exists a1B;refine aJS (l3 _ _ (l2 _ _ (l1 _ _ hm))) nd hl rfl λq hq=>?_;rw[an1 dM];intro t ht;obtain⟨l4,_⟩:=a1O (setG ((W.map (·.1.1)).foldl xV [])) hq ht;refine afF (ps:=(W.map (·.1.1)).foldl xV []) aD (by rw[jt];rfl) (ag2 a0q) (by have:=a3G (M:=W.map (·.1.1)) (N:=[]);simp at this;omega) λqs p1 p2 r hr=>?_;have l5:=l4.trans (Le.new (o:=.lst (qs.map cY)) hr);rw[xH dM]
 have nly:r≠ly:=λz=>by
  have:=l4 _ _ (show aH G2 ly (.lst []) ly=_ from aD);rw[z,this]at hr;cases hr
 have lq:qs.length<64:=by
  have e1:=p1.length_eq;have:=a3G (M:=W.map (·.1.1)) (N:=[]);simp at this;omega
 refine aJT (l5 _ _ (l3 _ _ (l2 _ _ (l1 _ _ hm)))) nd hl (l5 _ _ aD) aD nly lq λes G6 r4' gr3=>?_;have l6:Le G2 (rmG G6 ly):=λa u e=>gr3.le _ _ (qF (λz=>by rw[z,f3]at e;cases e) (l5 _ _ (l3 _ _ e)));have l7:Le G2 G6:=l6.trans sJ;have n1:=gr1.len;have n2:=gr2.len;rw[dj]at n1 n2;exists a1A;rw[akU (l7 _ _ (l2 _ _ gr1.at')) (l7 _ _ gr2.at') (by omega)];intro a fa;walk_at "wr";intro b fb;obtain⟨l8,_⟩:=a1O (.lst [.ref ly]) fa fb;rw[akU ((Le.new fb) _ _ aD) aD (by rw[uc];simp;omega)];intro c fc;have lz:=(l1.trans (l2.trans l7)).trans l8;obtain⟨zs,z1,z2,z3⟩:=asL gr3.pr
 have isl:IsL W zs:=IsL.mk' p2 (λs=>p1.mem_iff.trans (afD.trans ⟨λw=>by
  rcases w with w|w
  .cases w
  .obtain⟨z,hz,e⟩:=dw.mp w;exact⟨z.1.2,z.2,by rw[←e];exact hz⟩,λ⟨l,w,m⟩=>.inr (dw.mpr ⟨_,m,rfl⟩)⟩)) z1 z2
 refine bZ.here (h c _ _ (lz.trans (.new fc)) (le_none lz fc) aD ?_);exact lW (lW (Paired.z9 gr1.pr λ_ _ z=>Ask.le (sJ.trans (ab6 ((l2.trans l7).trans l8) fc)) z) (Paired.z9 gr2.pr λ_ _ z=>Ask.le (sJ.trans (ab6 (l7.trans l8) fc)) z)) (.cons (Ask.le (ab6 l8 fc) ⟨ly,zs,es,rfl,gr3.at',isl,Paired.z9 z3 (by rintro _ _ ⟨q,e,z⟩;exact⟨q,e,sJ _ _ z⟩)⟩) .nil)
theorem w_putI(s:SH A sh x y g room st M c G)(v:Shv room n M c)(hn:n<800){p:Int}(hl:0<=lot/\lot<=999)(b:OkB x y a p)(ha:1<=am/\am<=1000000)(hr:0<=room)(hs:nU (cI M c (ky a p))+am<=room)
  (h1:∀M' c' G',SH A sh x y g room st M' c' G'->Shv room (n+1) M' c'->Chg M c M' c' (ky a p) lot am->(∀k',k'≠ky a p->cI M' c' k'=cI M c k')->Kp st M M' G G'->R .non G'):eY K A [.ref sh,.int lot,.tup [.int a,.int p],.int am] G R EX:=by
 refine aJO s hl b ha (λz=>absurd (show nU (cI M c (ky a p))+am<=room from hs) (by have:room<nU (cI M c (ky a p))+am:=z;omega)) λe G1 R' EX' l hR=>?_;obtain⟨_,b2,_,_⟩:=qD (k:=ky a p) hr v;exact azR (s.le l) v (by omega) (by omega) (by have:=a8C (l:=lot) b2;omega) e λM' c' G' s' v' t' o' k'=>hR _ (h1 M' c' G' s' v' t' o' (k'.le l))
theorem ay1(s:SH A sh x y g room st M c G)(v:Shv room n M c)(hn:n<800){p:Int}(hl:0<=lot/\lot<=999)(b:OkB x y a p)(ha:1<=am/\am<=1000000)(hr:0<=room)(hs:am<=cH (cI M c (ky a p)) lot)
  (h1:∀M' c' G',SH A sh x y g room st M' c' G'->Shv room (n+1) M' c'->Chg M c M' c' (ky a p) lot (-am)->(∀k',k'≠ky a p->cI M' c' k'=cI M c k')->Kp st M M' G G'->R .non G'):dJ K A [.ref sh,.int lot,.tup [.int a,.int p],.int am] G R EX:=by
 refine asB s hl b ha (λz=>absurd hs (by have:cH (cI M c (ky a p)) lot<am:=z;omega)) λe G1 R' EX' l hR=>?_;obtain⟨_,b2,b3,_⟩:=qD (k:=ky a p) hr v;exact azR (s.le l) v (by omega) (by omega) (by omega) (by omega) λM' c' G' s' v' t' o' k'=>hR _ (h1 M' c' G' s' v' t' o' (k'.le l))
theorem aJX{κ α:Type}[DecidableEq κ]{k k':κ}{n:α}{W:List (κ×α)}:aJ (bQ W k n) k'=if k'=k then aj n else aJ W k':=by
 have mp:∀W:List (κ×α),aJ (W.map λkv=>if kv.1=k then(kv.1,n)else kv) k'=if k'=k/\(aJ W k).isSome=ak then aj n else aJ W k':=by
  intro W
  induction W with
  |nil=>simp[aJ]
  |cons z W ih =>
   rw[iy];unfold aJ;by_cases c1:z.1=k
   .simp only[c1,if_true];by_cases c2:k=k'
    .simp[c2]
    .rw[if_neg c2,ih,if_neg c2];simp[Ne.symm c2]
   .simp only[if_neg c1];by_cases c2:z.1=k'
    .rw[if_pos c2,if_pos c2,if_neg λw=>c1 (c2.trans w.1)]
    .rw[if_neg c2,if_neg c2,ih]
 have ap:∀W:List (κ×α),aJ W k=bh->aJ (W++[(k,n)]) k'=if k'=k then aj n else aJ W k':=by
  intro W h
  induction W with
  |nil =>
   show(if k=k' then aj n else bh)=_;by_cases c:k=k'
   .simp[c]
   .simp[c,Ne.symm c,aJ]
  |cons z W ih =>
   rw[a2h];unfold aJ at h ⊢;by_cases c1:z.1=k
   .rw[if_pos c1]at h;cases h
   .rw[if_neg c1]at h;by_cases c2:z.1=k'
    .rw[if_pos c2,if_pos c2,if_neg λw=>c1 (c2.trans w)]
    .rw[if_neg c2,if_neg c2,ih h]
 unfold bQ;by_cases c:(aJ W k).isSome=ak
 .rw[if_pos c,mp];simp[c]
 .rw[if_neg c];exact ap W (by simpa using c)
set_option tactic.hygienic true in
theorem aNI{κ α:Type}[DecidableEq κ]{k:κ}{n:α}{W:List (κ×α)}(nd:(W.map (·.1)).Nodup):((bQ W k n).map (·.1)).Nodup/\(bQ W k n).length<=W.length+1:=by
 unfold bQ;split
 ·rw[jt,dj];refine⟨?_,a1e _⟩
  have:((λx:κ×α=>x.1)∘λkv=>if kv.1=k then(kv.1,n)else kv)=λx=>x.1:=by
   funext z;show(if z.1=k then(z.1,n)else z).1=z.1;split<;>rfl
  rw[this];exact nd
 .rename_i c;rw[mz,uq,uc];refine⟨⟨nd,by simp,λu hu w hw z=>?_⟩,dz _⟩;simp at hw;exact jU.mp (show aJ W k=bh by simpa using c) (by rw[←hw,←z];exact hu)
theorem aJY{κ α:Type}[DecidableEq κ]{k:κ}{n:α}{W:List (κ×α)}{z:κ×α}(h:z∈bQ W k n):z∈W∨z=(k,n):=by
 unfold bQ at h;split at h
 .obtain⟨y,hy,e⟩:=dw.mp h;by_cases c:y.1=k
  .rw[if_pos c]at e;exact .inr (by rw[←e,c])
  .rw[if_neg c]at e;exact .inl (by rw[←e];exact hy)
 .rcases ug.mp h with h|h
  .exact .inl h
  .exact .inr (qe.mp h)
theorem Rl.chg{W':List Wk}(r:Rl M c W)(h:Chg M c M' c' (kq q) lot more)(o:∀k',k'≠kq q->cI M' c' k'=cI M c k')(nd:(W'.map (·.1)).Nodup)(pos:∀z∈W',1<=z.2)(hv:∀k,(aJ W' k).getD 0=(aJ W k).getD 0+if k=(q,lot)then more else 0):Rl M' c' W':=by
 refine⟨nd,pos,λa p l=>?_⟩;rw[hv];by_cases e:(a,p)=q
 .subst e;rw[h.1 l,r.va a p l];by_cases e2:l=lot
  .rw[if_pos e2,if_pos (by rw[e2])]
  .rw[if_neg e2,if_neg λw=>e2 (congrArg (·.2) w)]
 .rw[o _ λw=>e (asG (a:=(a,p)) w),r.va a p l,if_neg λw=>e (congrArg (·.1) w)];omega
theorem Rl.put(r:Rl M c W)(ha:1<=am)(h:Chg M c M' c' (kq q) lot am)(o:∀k',k'≠kq q->cI M' c' k'=cI M c k'):Rl M' c' (bQ W (q,lot) ((aJ W (q,lot)).getD 0+am)):=by
 refine r.chg h o (aNI r.nd).1 (λz hz=>?_) λk=>?_
 .rcases aJY hz with hz|rfl
  .exact r.pos z hz
  .show 1<=(aJ W (q,lot)).getD 0+am;cases e:aJ W (q,lot)with
   |none=>show 1<=0+am;omega
   |some u=>have:=r.pos _ (j5 e);show 1<=u+am;have:1<=u:=this;omega
 .rw[aJX];by_cases e:k=(q,lot)
  .rw[if_pos e,if_pos e,e];rfl
  .rw[if_neg e,if_neg e];omega
theorem SH.off(s:SH A sh x y g room st M c G)(h:G q=aj u)(nd:∀t kvs,u≠.bC t kvs):q≠st/\q∉M.map (·.2):=by
 refine⟨λz=>?_,λz=>?_⟩
 .rw[z,s.st]at h;exact nd _ _ (iz.inj h).symm
 .obtain⟨y,hy,rfl⟩:=dw.mp z;rw[s.ins y hy]at h;exact nd _ _ (iz.inj h).symm
theorem ab7:∀{N acc:List (List Key×bw)},((acc++N).map (·.1)).Nodup->a6Y (acc.map kY) (N.map λy=>(y.1,.ref y.2))=(acc++N).map kY
 |[],acc,_=>by rw[a0g];rfl
 |y::N,acc,h=>by
  have e:acc++y::N=(acc++[y])++N:=by rw[List.append_assoc];rfl
  have n:y.1∉acc.map (·.1):=λw=>by
   rw[mz,uq]at h;exact h.2.2 _ w _ (.head _) rfl
  show a6Y (bQ (acc.map kY) (.inr y.1) (.ref y.2)) (N.map λy=>(y.1,.ref y.2))=_
  have ep:bQ (acc.map kY) (.inr y.1) (.ref y.2)=(acc++[y]).map kY:=by
   rw[ad4,mz]
   .rfl
   .intro w;obtain⟨z,hz,e2⟩:=dw.mp w;obtain⟨u,hu,rfl⟩:=dw.mp hz;exact n (dw.mpr ⟨u,hu,Sum.inr.inj e2⟩)
  rw[ep,ab7 (by rw[←e];exact h),e]
def Kpt(N:List (List Key×bw))(c':bw->List (Int×Int))(G0 G:Gp)(y:List Key×bw):Prop:=∃z∈N,z.1=y.1/\G y.2=aj (.bC ao ((c' z.2).map jJ))/\G0 y.2=bh
theorem azT{N:List (List Key×bw)}{G:Gp}:∀{qs:List (Int×Int)}{es:List D},Paired (λd e=>∃q r,d=cY q/\e=.tup [cY q,.ref r]/\Kpt N c' G0 G (kq q,r)) (qs.map cY) es->∃N2:List (List Key×bw),N2.map (·.1)=qs.map kq/\vN es=aj (N2.map λy=>(y.1,.ref y.2))/\∀y∈N2,Kpt N c' G0 G y
 |[],_,.nil=>⟨[],rfl,rfl,λy hy=>nomatch hy⟩
 |q::qs,_,.cons ⟨q',r,e1,e2,k⟩ t=>by
  obtain⟨N2,n1,n2,n3⟩:=azT t;obtain rfl:=ad6 _ _ e1;refine⟨(kq q,r)::N2,by rw[iy,iy,n1],?_,λy hy=>?_⟩
  .rw[e2];unfold L2.vN;rw[n2];rfl
  .rcases je.mp hy with rfl|hy
   .exact k
   .exact n3 y hy
theorem asM{t:bw}{qs:List (Int×Int)}(hh:G h0=aj (.lst ds))(ht:G t=aj (.bC ak (N.map kY)))(ek:N.map (·.1)=qs.map kq)(nd:(N.map (·.1)).Nodup)(hN:N.length<64)(hi:∀z∈N,G z.2=aj (.bC ao ((c' z.2).map jJ))/\(c' z.2).length<1000)
  (h:∀kl kd (N2:List (List Key×bw)) G',Le G G'->G kl=bh->G kd=bh->G' kl=aj (.lst ds)->G' kd=aj (.bC ak (N2.map kY))->N2.map (·.1)=N.map (·.1)->(∀y∈N2,Kpt N c' G G' y)->qC K A ex F [r0,r1,r2,r3,r4,r5,r6,r7,r8,r9,r10,aj (.ref h0),aj (.ref t),aj (.tup [.ref kl,.ref kd]),bh] G') :
  zT K A ex F [r0,r1,r2,r3,r4,r5,r6,r7,r8,r9,r10,aj (.ref h0),aj (.ref t),r13,r14] G:=by
 have big:10000<cu:=by decide
 have lq:qs.length<64:=by have e:=congrArg a1c ek;simp at e;omega
 exists zT;rw[arN (iH hh)];intro kl fl;have l1:Le G (aH G kl (.lst ds)):=.new fl;walk_at "wr";refine axQ rfl (l1 _ _ ht) ?_;show a0G ac2 _ _ _ _ _ _;walk_at "wr";rw[acV (l1 _ _ ht)];intro od;have it:=a8F (t:=t) (od:=od) ek;have lb:∀q u,q≠t->G q=aj u->aH (aH G kl (.lst ds)) t (.yM od ak (N.map kY)) q=aj u:=λq u n e=>by rw[aN n];exact l1 _ _ e
 have nkl:kl≠t:=λz=>by rw[z,ht]at fl;cases fl
 refine a5Z (λd e G'=>∃q r,d=cY q/\e=.tup [cY q,.ref r]/\Kpt N c' G G' (kq q,r)) (by rintro d y G5 G' l ⟨q,r,e1,e2,z,z1,z2,z3,z4⟩;exact⟨q,r,e1,e2,z,z1,z2,l _ _ z3,z4⟩) (by rw[it,dj];omega) aD (λd hd G6 l6 Q hQ=>?_) λp es G8 l8 f8 g8 P8=>?_
 .rw[it]at hd;obtain⟨q,hq,rfl⟩:=dw.mp hd;have mq:kq q∈N.map (·.1):=by rw[ek];exact dw.mpr ⟨q,hq,rfl⟩
  obtain⟨z,hz,ez⟩:=dw.mp mq;have vd:aJ N (kq q)=aj z.2:=by rw[←ez];exact fL nd hz
  obtain⟨i1,i2⟩:=hi z hz;have nz:z.2≠t:=λw=>by rw[w,ht]at i1;cases i1
  have i1':=l6 _ _ (lb _ _ nz i1);walk_at "wr";rw[show cY q=.tup [.int q.1,.int q.2]from rfl,a7G (aaW (l6 _ _ aD)) iZ rfl (by rw[jQ,vd];rfl)];walk_at "wr";refine arW (aaV i1') (by rw[dj];omega) λr hr=>?_;walk_at "wr";refine hQ (.tup [cY q,.ref r]) _ (.new hr) λp hp=>⟨q,r,rfl,rfl,z,hz,ez,qF (λw=>hp (by rw[←w];exact hr)) aD,?_⟩;cases e:G r with
  |none=>rfl
  |some u =>
   have nr:r≠t:=λw=>by rw[w,l6 _ _ aD]at hr;cases hr
   rw[l6 _ _ (lb _ _ nr e)]at hr;cases hr
 rw[it]at P8;obtain⟨N2,n1,n2,n3⟩:=azT P8;have np:p≠t:=λz=>by rw[z,aD]at f8;cases f8
 refine⟨⟨od,l8 _ _ aD⟩,?_⟩;have g9:aY (aH G8 t (.bC ak (N.map kY))) p=aj es:=iH (by rw[aN np];exact g8)
 have l9:Le G (aH G8 t (.bC ak (N.map kY))):=λq u e=>by
  by_cases z:q=t
  .rw[z,ht]at e;rw[z,aD];exact e
  .rw[aN z];exact l8 _ _ (lb _ _ z e)
 unfold L2.pQ;simp only[g9,n2];intro kd fd;have e2:a6Y [] (N2.map λy=>(y.1,.ref y.2))=N2.map kY:=ab7 (acc:=[]) (by rw[List.nil_append,n1,←ek];exact nd);rw[e2];walk_at "wr";have nk:kl≠kd:=λz=>by rw[←z,aN nkl,l8 _ _ (by rw[aN nkl,aD])]at fd;cases fd
 refine h kl kd N2 _ (l9.trans (.new fd)) fl (le_none l9 fd) ?_ aD (n1.trans ek.symm) λy hy=>?_
 .rw[aN nk,aN nkl];exact l8 _ _ (by rw[aN nkl,aD])
 .obtain⟨z,z1,z2,z3,z4⟩:=n3 y hy;have ny:y.2≠t:=λw=>by rw[w,ht]at z4;cases z4
  exact⟨z,z1,z2,(Le.new fd) _ _ (by rw[aN ny];exact sJ _ _ z3),z4⟩
noncomputable def rdP(G:Gp)(a:bw):List (Int×Int):=match G a with
 |some (.bC ao kvs)=>kvs.map λz=>match z with
  |(.inl (.inl i),.int v)=>(i,v)
  |_=>(0,0)
 |_=>[]
theorem ad9{a:bw}{ps:List (Int×Int)}(h:G a=aj (.bC ao (ps.map jJ))):rdP G a=ps:=by
 unfold rdP;rw[h];simp only[jt];exact List.map_id' _
theorem ay2{h0 kl t kd:bw}{ds:List D}{qs:List (Int×Int)}{c':bw->List (Int×Int)}(h1:G h0=aj (.lst ds))(h2:G kl=aj (.lst ds))(ok:∀d∈ds,okN G 4 d d=ak)(ht:G t=aj (.bC ak (N.map kY)))(hk:G kd=aj (.bC ak (N2.map kY)))(nt:t≠kd)(en:N2.map (·.1)=N.map (·.1))(ek:N.map (·.1)=qs.map kq)(nd:(N.map (·.1)).Nodup)
  (hi:∀z∈N,G z.2=aj (.bC ao ((c' z.2).map jJ))/\((c' z.2).map (·.1)).Nodup)(hi2:∀y∈N2,∃z∈N,z.1=y.1/\G y.2=aj (.bC ao ((c' z.2).map jJ)))(h:R (.bl ao) G):acK (.tup [.ref h0,.ref t]) (.tup [.ref kl,.ref kd]) G R:=by
 obtain⟨o1,o2⟩:=a8E (n:=4) h1 h2 (a1N ok)
 have isI:∀z∈N++N2,∃is:List Int,z.1=is.map .inl:=λz hz=>by
  have m:z.1∈qs.map kq:=by
   rcases ug.mp hz with w|w
   .rw[←ek];exact dw.mpr ⟨z,w,rfl⟩
   .rw[←ek,←en];exact dw.mpr ⟨z,w,rfl⟩
  obtain⟨q,_,e⟩:=dw.mp m;exact⟨[q.1,q.2],e.symm⟩
 have eT:eqT (rdP G) N N2=ak:=by
  unfold L2.eqT;have el:N.length=N2.length:=by have:=congrArg a1c en;simpa using this.symm
  rw[el,beq_self_eq_true,Bool.true_and,jy];intro z hz;have m:z.1∈N2.map (·.1):=by rw[en];exact dw.mpr ⟨z,hz,rfl⟩
  obtain⟨y,hy,e⟩:=dw.mp m;have vy:aJ N2 z.1=aj y.2:=by rw[←e];exact fL (by rw[en];exact nd) hy
  rw[vy];obtain⟨z',hz',e',g'⟩:=hi2 y hy
  have ez:z'.2=z.2:=by
   have a:=fL nd hz;have b:=fL nd hz';rw[e',e,a]at b;exact(iz.inj b).symm
  rw[ez]at g';show eqM (rdP G z.2) (rdP G y.2)=ak;rw[ad9 (hi z hz).1,ad9 g'];exact a73 (hi z hz).2
 refine⟨.ref h0,.ref kl,t,kd,N,N2,rdP G,rfl,rfl,nt,o1,ht,hk,λz hz=>⟨?_,isI z hz⟩,?_⟩
 .rcases ug.mp hz with w|w
  .rw[ad9 (hi z w).1];exact(hi z w).1
  .obtain⟨z',_,_,g'⟩:=hi2 z w;rw[ad9 g'];exact g'
 .rw[o2,eT];exact h
structure Cs(ss:List (Int×Int))(ls:List Int)(x y:Nat):Prop where
 s3:ss.length=3
 l2:ls.length=2
 bs:∀q∈ss,OkB x y q.1 q.2
 bl:∀l∈ls,0<=l/\l<=999
structure L25(A:bD)(a:bw)(ns:List Int)(sp lp:bw)(ss:List (Int×Int))(ls:List Int)(sh xZ:bw)(x y g:Nat)(st st2 m:bw)(n:Nat)(M:List (List Key×bw))(c:bw->List (Int×Int))(W:List Wk)(G:Gp):Prop where
 hG:G a=aj (.rol (ns.map D.int))
 hs:G sp=aj (.lst (ss.map cY))
 hl:G lp=aj (.lst (ls.map D.int))
 s:SH A sh x y g 1000 st M c G
 s2:SH A xZ x y g 1000 st2 [] (λ_=>[]) G
 hm:G m=aj (.uV (wN W))
 v:Shv 1000 n M c
 ne:st2≠st
 wk:∀z∈W,z.1.1∈ss
section
variable{a m:bw}{ns:List Int}{n:Nat}{W:List Wk}
theorem L25.le(w:L25 A a ns sp lp ss ls sh xZ x y g st st2 m n M c W G)(l:Le G G'):L25 A a ns sp lp ss ls sh xZ x y g st st2 m n M c W G':=⟨l _ _ w.hG,l _ _ w.hs,l _ _ w.hl,w.s.le l,w.s2.le l,l _ _ w.hm,w.v,w.ne,w.wk⟩
theorem ag4(w:L25 A a ns sp lp ss ls sh xZ x y g st st2 m n M c W G)(r:Rl M c W)(k:Cs ss ls x y)(hn:n<64)(hw:W.length<64)(h:∀G',Le G G'->Q (.bl ao) G'):iD K A [.ref sh,.ref sp,.ref lp] G (λd G1=>jE K A [.ref m,.ref sp,.ref lp] G1 (λe G2=>a6P d e G2 Q) EX2) EX:=by
 have o:=w.s.o;refine aET w.s w.v hn (by omega) r w.hs w.hl (by have:=k.s3;omega) (by have:=k.l2;omega) k.bs k.bl λrr ds G1 l1 f1 g1 t1=>?_;refine aJU (l1 _ _ w.hm) r.nd hw (λz hz=>?_) (l1 _ _ w.hs) (l1 _ _ w.hl) (by have:=k.s3;omega) (by have:=k.l2;omega) λr2 es G2 l2 f2 g2 t2=>?_
 .have b:=k.bs _ (w.wk z hz);have y1:=o.y1;obtain⟨_,_,b3,b4⟩:=b;omega
 .rw[axD (iH (l2 _ _ g1)) (iH g2)];obtain⟨o,e⟩:=Tld.eq (t1.le (sJ.trans l2)) (t2.le sJ);refine⟨o,?_⟩;rw[e];exact h G2 (l1.trans l2)
end
noncomputable def rmS(G:Gp)(S:List bw):Gp:=λq=>if q∈S then bh else G q
set_option tactic.hygienic true in
theorem jV(h:rmS G S q=aj u):q∉S/\G q=aj u:=by
 unfold rmS at h;split at h
 .cases h
 .rename_i n;exact⟨n,h⟩
theorem a8I:Le (rmS G S) G:=λq u e=>(jV e).2
theorem a3H(n:q∉S)(h:G q=aj u):rmS G S q=aj u:=by
 unfold rmS;rw[if_neg n];exact h
theorem asN(l:Le G G'):Le (rmS G S) (rmS G' S):=λq u e=>a3H (jV e).1 (l _ _ (jV e).2)
theorem a1P(h:q∈S):Le (rmS G S) (rmS (aH G q o) S):=λb u e=>by
 obtain⟨n,e⟩:=jV e;exact a3H n (by rw[aN λz=>n (by rw[z];exact h)];exact e)
theorem alJ(l:Le G G')(h:∀q∈S,G q=bh):Le G (rmS G' S):=λq u e=>a3H (λm=>by rw[h q m]at e;cases e) (l _ _ e)
theorem aJZ{κ α:Type}[DecidableEq κ]{k:κ}{n:α}{W:List (κ×α)}:(bQ W k n).length<=W.length+1:=by
 unfold bQ;split
 ·rw[dj];exact a1e _
 .rw[uc];exact dz _
theorem ix0(h:G p=aj (.lst (d::r))):d7 (.ref p) (.int 0) G R=R d G:=acN (iH h) at0
section
variable{a m:bw}{ns:List Int}{l0:Int}{n:Nat}{W:List Wk}
theorem L25.chg(w:L25 A a ns sp lp ss ls sh xZ x y g st st2 m n M c W (rmS G S))(hS:∀q∈S,G q≠bh)(s':SH A sh x y g 1000 st M' c' G')(v':Shv 1000 (n+1) M' c')(k:Kp st M M' G G'):L25 A a ns sp lp ss ls sh xZ x y g st st2 m (n+1) M' c' W (rmS G' S):=by
 have off:∀q u,rmS G S q=aj u->q≠st->(∀kvs,u≠.bC ao kvs)->rmS G' S q=aj u:=λq u e ns nu=>by
  obtain⟨n1,e1⟩:=jV e;refine a3H n1 (k.1 q u ns (λz=>?_) e1);obtain⟨y,hy,rfl⟩:=dw.mp z;rw[w.s.ins y hy]at e;exact nu _ (iz.inj e).symm
 have nst:∀{q u},rmS G S q=aj u->(∀kvs,u≠.bC ak kvs)->q≠st:=λe nu z=>by
  rw[z,w.s.st]at e;exact nu _ (iz.inj e).symm
 have o1:∀q u,rmS G S q=aj u->(∀t kvs,u≠.bC t kvs)->rmS G' S q=aj u:=λq u e nu=>off q u e (nst e (nu ak)) (nu ao);refine⟨o1 _ _ w.hG (λ_ _ z=>nomatch z),o1 _ _ w.hs (λ_ _ z=>nomatch z),o1 _ _ w.hl (λ_ _ z=>nomatch z),⟨w.s.o,o1 _ _ w.s.sh (λ_ _ z=>nomatch z),a3H (jV w.s.st).1 s'.st,λz hz=>a3H (λmS=>?_) (s'.ins z hz)⟩,⟨w.s2.o,o1 _ _ w.s2.sh (λ_ _ z=>nomatch z),off _ _ w.s2.st w.ne (λ_ z=>nomatch z),λz hz=>nomatch hz⟩,o1 _ _ w.hm (λ_ _ z=>nomatch z),v',w.ne,w.wk⟩;rcases k.2 z.2 (dw.mpr ⟨z,hz,rfl⟩)with q|q
 .obtain⟨y,hy,e⟩:=dw.mp q;exact(jV (w.s.ins y hy)).1 (by rw[e];exact mS)
 .exact hS _ mS q
theorem ay3(w:L25 A a ns sp lp ss ls sh xZ x y g st st2 m n M c W G)(r:Rl M c W)(k:Cs ss ls x y)(hn:n<64)(hw:W.length<64)(h:∀G',Le G G'->F.nx [aj (.ref a),r1,aj (.ref sp),aj (.ref lp),aj (.ref sh),r5,aj (.ref m),r7,r8,r9,r10,r11,r12,r13,r14] G') :
  wJ K A ex F [aj (.ref a),r1,aj (.ref sp),aj (.ref lp),aj (.ref sh),r5,aj (.ref m),r7,r8,r9,r10,r11,r12,r13,r14] G:=by
 exists wJ;refine ag4 w r k hn hw λG' l=>?_;walk_at "wr";exact h G' l
theorem ay4(w:L25 A a ns sp lp ss (l0::ls) sh xZ x y g st st2 m n M c W G)(r:Rl M c W)(k:Cs ss (l0::ls) x y)(hn:n<64)(hw:W.length<64)(h:∀G',Le G G'->F.nx [aj (.ref a),r1,aj (.ref sp),aj (.ref lp),aj (.ref sh),r5,aj (.ref m),r7,r8,r9,r10,r11,r12,r13,r14] G') :
  wK K A ex F [aj (.ref a),r1,aj (.ref sp),aj (.ref lp),aj (.ref sh),r5,aj (.ref m),r7,r8,r9,r10,r11,r12,r13,r14] G:=by
 have big:10000<cu:=by decide
 exists wK;rw[ix0 w.hl];refine⟨by rw[dU w.s.sh (m:="places") rfl];trivial,?_⟩;refine ab5 w.s w.v hn (by omega) r (k.bl _ (.head _)) λrr ws G1 l1 f1 g1 i1 lw=>?_;refine⟨asK g1,?_⟩;rw[vU g1 (by rw[dj];omega)];have l2:=alI (o:=.lst (ws.map pcE++[.int 1])) l1 f1;exact ay3 (w.le l2) r k hn hw λG' l=>h G' (l2.trans l)
theorem ay5{t:bw}{ds:List D}{qs:List (Int×Int)}(w:L25 A a ns sp lp ss (l0::ls) sh xZ x y g st st2 m n M c W (rmS G S))(r:Rl M c W)(k:Cs ss (l0::ls) x y)(hn:n<64)(hw:W.length<64)
  (hh:G h0=aj (.lst ds))(ld:ds.length<1000)(ht:G t=aj (.bC ak (N.map kY)))(ek:N.map (·.1)=qs.map kq)(nd:(N.map (·.1)).Nodup)(hN:N.length<64)(hi:∀z∈N,∃kvs,G z.2=aj (.bC ao kvs)/\kvs.length<1000)(hS:h0∈S/\t∈S/\∀z∈N,z.2∈S)
  (h:∀G' r14,L25 A a ns sp lp ss (l0::ls) sh xZ x y g st st2 m n M c W G'->F.nx [aj (.ref a),r1,aj (.ref sp),aj (.ref lp),aj (.ref sh),r5,aj (.ref m),r7,r8,r9,r10,aj (.ref h0),aj (.ref t),r13,r14] G') :
  wL K A ex F [aj (.ref a),r1,aj (.ref sp),aj (.ref lp),aj (.ref sh),r5,aj (.ref m),r7,r8,r9,r10,aj (.ref h0),aj (.ref t),r13,r14] G:=by
 have big:10000<cu:=by decide
 exists wL;refine⟨asK hh,?_⟩;rw[vU hh (by omega)];have n0:h0≠t:=λz=>by rw[z,ht]at hh;cases hh
 have w1:=w.le (a1P (o:=.lst (ds++[.tup [.int 5,.int 5]])) hS.1);have ht1:aH G h0 (.lst (ds++[.tup [.int 5,.int 5]])) t=aj (.bC ak (N.map kY)):=by rw[aN (Ne.symm n0)];exact ht
 have hi1:∀z∈N,∃kvs,aH G h0 (.lst (ds++[.tup [.int 5,.int 5]])) z.2=aj (.bC ao kvs)/\kvs.length<1000:=λz hz=>by
  obtain⟨kvs,e,l⟩:=hi z hz;exact⟨kvs,by rw[aN λq=>by rw[q,hh]at e;cases e];exact e,l⟩
 generalize aH G h0 _=G1 at w1 ht1 hi1 ⊢;exists a4M;rw[acV ht1];intro od;refine arU (λj ρ G'=>∃r14,ρ=[aj (.ref a),r1,aj (.ref sp),aj (.ref lp),aj (.ref sh),r5,aj (.ref m),r7,r8,r9,r10,aj (.ref h0),aj (.ref t),r13,r14]/\G' t=aj (.yM od ak (N.map kY))/\L25 A a ns sp lp ss (l0::ls) sh xZ x y g st st2 m n M c W (rmS G' S)/\∀z∈N,∃kvs,G' z.2=aj (.bC ao kvs)/\kvs.length<1000+j) ⟨_,rfl,aD,w1.le (a1P hS.2.1),λz hz=>?_⟩ (λj ρ G' ⟨_,_,h,_⟩=>h) (λj q ρ G' eq hh=>?_) λρ G' hh=>?_
 .obtain⟨kvs,e,l⟩:=hi1 z hz;exact⟨kvs,by rw[aN λq=>by rw[q,ht1]at e;cases e];exact e,by omega⟩
 .obtain⟨r14,rfl,tt,w2,hi2⟩:=hh;obtain⟨⟨kk,zd⟩,ez,rfl⟩:=a2S eq;have hz:=jx ez
  obtain⟨q,_,eq2⟩:∃q∈qs,kq q=kk:=by
   have:kk∈qs.map kq:=by rw[←ek];exact dw.mpr ⟨_,hz,rfl⟩
   obtain⟨q,h1,h2⟩:=dw.mp this;exact⟨q,h1,h2⟩
  subst eq2;obtain⟨kvs,e,l⟩:=hi2 _ hz;have e:G' zd=aj (.bC ao kvs):=e;have vd:aJ N (kq q)=aj zd:=fL (z:=(kq q,zd)) nd hz;have lj:j<64:=by have:=(ji.mp ez).1;omega
  exists a1G;rw[show dkD (kY (kq q,zd)).1=.tup [.int q.1,.int q.2]from rfl,a7G (aaW tt) iZ rfl (by rw[jQ,vd];rfl)];walk_at "wr";rw[a5U e mK rfl (by omega)];have nz:zd≠t:=λz=>by rw[z,tt]at e;cases e
  refine⟨_,rfl,by rw[aN (Ne.symm nz)];exact tt,w2.le (a1P (hS.2.2 _ hz)),λz hz=>?_⟩;by_cases cz:z.2=zd
  .exact⟨_,by rw[cz,aD],by have:=aJZ (W:=kvs) (k:=.inl (.inl 5)) (n:=.int 7);omega⟩
  .obtain⟨kvs,e,l⟩:=hi2 z hz;exact⟨kvs,by rw[aN cz];exact e,by omega⟩
 .obtain⟨r14,rfl,tt,w2,hi2⟩:=hh;exists a4L;intro e fe;have te:(aH (aH G' t (.bC ak (N.map kY))) e (.bC ao [])) t=aj (.bC ak (N.map kY)):=(Le.new fe) _ _ aD;rw[a5U te iZ rfl (by rw[dj];omega)];have w3:=((w2.le (a1P (o:=.bC ak (N.map kY)) hS.2.1)).le (asN (.new (o:=.bC ao []) fe))).le (a1P (o:=.bC ak (bQ (N.map kY) (.inr (ky 9 9)) (.ref e))) hS.2.1);exact ay4 (w3.le a8I) r k hn hw λG'' l=>h G'' r14 ((w3.le a8I).le l)
end
section
variable{a sp lp xZ st2 m:bw}{ns:List Int}{s0:Int×Int}{l0:Int}{ss:List (Int×Int)}{ls:List Int}{n:Nat}{W:List Wk}
theorem ay6{r1 r5 r7 r8 r9 r10 r14:Option D}{h0 t kl kd:bw}{hs:List (Int×Int)}{qs:List (Int×Int)}{c':bw->List (Int×Int)}{S:List bw}(w:L25 A a ns sp lp (s0::ss) (l0::ls) sh xZ x y g st st2 m n M c W (rmS G S))(r:Rl M c W)(k:Cs (s0::ss) (l0::ls) x y)(hn:n<60)(hw:W.length<64)(sm:nU (cI M c (kq s0))+1<=1000)
  (hh:G h0=aj (.lst (hs.map cY)))(ld:hs.length<1000)(hl:G kl=aj (.lst (hs.map cY)))(ht:G t=aj (.bC ak (N.map kY)))(hk:G kd=aj (.bC ak (N2.map kY)))(nt:t≠kd)(en:N2.map (·.1)=N.map (·.1))(ek:N.map (·.1)=qs.map kq)(nd:(N.map (·.1)).Nodup)(hN:N.length<64)
  (hi:∀z∈N,G z.2=aj (.bC ao ((c' z.2).map jJ))/\((c' z.2).map (·.1)).Nodup/\(c' z.2).length<1000)(hi2:∀y∈N2,∃z∈N,z.1=y.1/\G y.2=aj (.bC ao ((c' z.2).map jJ)))(hS:h0∈S/\t∈S/\∀z∈N,z.2∈S)(hS2:∀q∈S,G q≠bh)(hf:∀q∈kd::N2.map (·.2),q≠st/\q∉M.map (·.2))
  (h:∀G' r14 M' c',L25 A a ns sp lp (s0::ss) (l0::ls) sh xZ x y g st st2 m (n+2) M' c' W G'->Rl M' c' W->(∀k,nU (cI M' c' k)=nU (cI M c k))->F.nx [aj (.ref a),r1,aj (.ref sp),aj (.ref lp),aj (.ref sh),r5,aj (.ref m),r7,r8,r9,r10,aj (.ref h0),aj (.ref t),aj (.tup [.ref kl,.ref kd]),r14] G') :
  qC K A ex F [aj (.ref a),r1,aj (.ref sp),aj (.ref lp),aj (.ref sh),r5,aj (.ref m),r7,r8,r9,r10,aj (.ref h0),aj (.ref t),aj (.tup [.ref kl,.ref kd]),r14] G:=by
 have big:10000<cu:=by decide
 have wG:=w.le a8I;have bs:=k.bs _ (.head _);have bl:=k.bl _ (.head _);exists qC;rw[ix0 wG.hl];walk_at "wr";rw[ix0 wG.hs];walk_at "wr";refine⟨by rw[dU wG.s.sh (m:="put") rfl];trivial,?_⟩;refine w_putI (a:=s0.1) (p:=s0.2) wG.s w.v (by omega) bl bs (by omega) (by omega) sm λM1 c1 G1 s1 v1 ch1 o1 k1=>?_;have w1:=w.chg hS2 s1 v1 k1
 have inS:∀{q:bw}{u:GO},q∈S->G q=aj u->G1 q=aj u:=λ{q u} mS e=>k1.1 q u (λz=>(jV w.s.st).1 (by rw[←z];exact mS)) (λz=>by
  obtain⟨y,hy,e⟩:=dw.mp z;exact(jV (w.s.ins y hy)).1 (by rw[e];exact mS)) e
 have hS3:∀q∈S,G1 q≠bh:=λq mS z=>by
  cases e:G q with
  |none=>exact hS2 q mS e
  |some u=>rw[inS mS e]at z;cases z
 obtain⟨f1,f2⟩:=wG.s.off hl (λ_ _ z=>nomatch z);obtain⟨f3,f4⟩:=hf kd (.head _);have hh1:=inS hS.1 hh;have ht1:=inS hS.2.1 ht;have hi1:∀z∈N,G1 z.2=aj (.bC ao ((c' z.2).map jJ)):=λz hz=>inS (hS.2.2 z hz) (hi z hz).1;exists a4O;refine ay2 (qs:=qs) (c':=c') hh1 (k1.1 _ _ f1 f2 hl) (λd hd=>by obtain⟨q,_,rfl⟩:=dw.mp hd;rfl) ht1 (k1.1 _ _ f3 f4 hk) nt en ek nd (λz hz=>⟨hi1 z hz,(hi z hz).2.1⟩) (λy hy=>?_) ?_
 .obtain⟨z,z1,z2,z3⟩:=hi2 y hy;obtain⟨f5,f6⟩:=hf y.2 (.tail _ (dw.mpr ⟨y,hy,rfl⟩));exact⟨z,z1,z2,k1.1 _ _ f5 f6 z3⟩
 have wG1:=w1.le a8I;exists a4N;rw[ix0 wG1.hl];walk_at "wr";rw[ix0 wG1.hs];walk_at "wr";refine⟨by rw[dU wG1.s.sh (m:="take") rfl];trivial,?_⟩;have v0:0<=cH (cI M c (kq s0)) l0:=a8C (qD (k:=kq s0) (by omega) w.v).2.1;refine ay1 (a:=s0.1) (p:=s0.2) wG1.s w1.v (by omega) bl bs (by omega) (by omega) (by rw[ch1.1 l0,if_pos rfl];show 1<=cH (cI M c (kq s0)) l0+1;omega) λM2 c2 G2 s2 v2 ch2 o2 k2=>?_;have w2:=w1.chg hS3 s2 v2 k2
 have aF0:∀{q:bw}{u:GO},q∈S->G1 q=aj u->G2 q=aj u:=λ{q u} mS e=>k2.1 q u (λz=>(jV w1.s.st).1 (by rw[←z];exact mS)) (λz=>by
  obtain⟨y,hy,e⟩:=dw.mp z;exact(jV (w1.s.ins y hy)).1 (by rw[e];exact mS)) e
 have rr1:=r.put (q:=s0) (by omega) ch1 o1
 have rr:Rl M2 c2 W:=rr1.chg (q:=s0) ch2 o2 r.nd r.pos λkk=>by
  rw[aJX];by_cases e:kk=(s0,l0)
  .rw[if_pos e,if_pos e,e];show _=(aJ W (s0,l0)).getD 0+1+-1;omega
  .rw[if_neg e,if_neg e];omega
 have smm:∀kk,nU (cI M2 c2 kk)=nU (cI M c kk):=λkk=>by
  by_cases e:kk=kq s0
  .rw[e];have a:nU (cI M1 c1 (kq s0))=nU (cI M c (kq s0))+1:=ch1.2;have b:nU (cI M2 c2 (kq s0))=nU (cI M1 c1 (kq s0))+-1:=ch2.2;omega
  .rw[o2 _ e,o1 _ e]
 refine ay5 (qs:=qs) w2 rr k (by omega) hw (aF0 hS.1 hh1) (by rw[dj];exact ld) (aF0 hS.2.1 ht1) ek nd hN (λz hz=>⟨_,aF0 (hS.2.2 z hz) (hi1 z hz),by rw[dj];exact(hi z hz).2.2⟩) hS λG' r14 w'=>h G' r14 M2 c2 w' rr smm
end
section
variable{a m:bw}{ns:List Int}{l0:Int}{n:Nat}{W:List Wk}
theorem aF1(w:L25 A a ns sp lp (s0::ss) (l0::ls) sh xZ x y g st st2 m n M c W G)(r:Rl M c W)(k:Cs (s0::ss) (l0::ls) x y)(hn:n<60)(hw:W.length<64)(sm:nU (cI M c (kq s0))+1<=1000)
  (h:∀G' r11 r12 r13 r14 M' c',L25 A a ns sp lp (s0::ss) (l0::ls) sh xZ x y g st st2 m (n+2) M' c' W G'->Rl M' c' W->(∀k,nU (cI M' c' k)=nU (cI M c k))->F.nx [aj (.ref a),r1,aj (.ref sp),aj (.ref lp),aj (.ref sh),r5,aj (.ref m),r7,r8,r9,r10,r11,r12,r13,r14] G') :
  zU K A ex F [aj (.ref a),r1,aj (.ref sp),aj (.ref lp),aj (.ref sh),r5,aj (.ref m),r7,r8,r9,r10,r11,r12,r13,r14] G:=by
 have hn':n<64:=by omega
 exists zU;rw[ix0 w.hs];walk_at "wr";refine⟨by rw[dU w.s.sh (m:="held") rfl];trivial,?_⟩;refine ad7 w.s w.v hn' (by omega) r (k.bs _ (.head _)) λh0 hs G1 l1 f1 g1 i1 lh=>?_;have s1:=w.s.le l1;exists a83;refine⟨by rw[dU s1.sh (m:="lying") rfl];trivial,?_⟩;refine a5Y s1 w.v hn' λt qs N c' G2 l2 ly=>?_;exists a82;refine ag4 (w.le (l1.trans l2)) r k hn' hw λG3 l3=>?_;walk_at "wr";have nd:(N.map (·.1)).Nodup:=ly.ke.nodup_iff.mpr w.v.kn
 have hN:N.length<64:=by
  have e:=ly.ke.length_eq;rw[dj,dj]at e;have:=w.v.len;omega
 have hin:∀z∈N,((c' z.2).map (·.1)).Nodup/\(c' z.2).length<1000:=λz hz=>by
  obtain⟨_,p,_,_⟩:=ly.ins z hz;obtain⟨b1,_,_,b4⟩:=qD (k:=z.1) (by omega) w.v;exact⟨(p.map _).nodup_iff.mpr b1,by rw[p.length_eq];omega⟩
 refine asM (qs:=qs) (c':=c') (l3 _ _ (l2 _ _ g1)) (l3 _ _ ly.tt) ly.kq nd hN (λz hz=>⟨l3 _ _ (ly.ins z hz).1,(hin z hz).2⟩) λkl kd N2 G4 l4 f2 f3 g2 g3 en kp=>?_;have l13:=l1.trans (l2.trans l3);have l14:=l13.trans l4
 have nw:∀q∈h0::t::N.map (·.2),G q=bh:=λq hq=>by
  rcases je.mp hq with rfl|hq
  .exact f1
  .rcases je.mp hq with rfl|hq
   .exact le_none l1 ly.t0
   .obtain⟨z,hz,rfl⟩:=dw.mp hq;exact le_none l1 (ly.ins z hz).2.2.2
 have sN:∀z∈N,G4 z.2=aj (.bC ao ((c' z.2).map jJ)):=λz hz=>l4 _ _ (l3 _ _ (ly.ins z hz).1);have sh0:=l4 _ _ (l3 _ _ (l2 _ _ g1));have st0:=l4 _ _ (l3 _ _ ly.tt);have w3:=w.s.le l13
 have fr:∀q,G3 q=bh->q≠st/\q∉M.map (·.2):=λq e=>by
  refine⟨λz=>?_,λz=>?_⟩
  .rw[z,w3.st]at e;cases e
  .obtain⟨y,hy,rfl⟩:=dw.mp z;rw[w3.ins y hy]at e;cases e
 refine ay6 (qs:=qs) (c':=c') (w.le (alJ (S:=h0::t::N.map (·.2)) l14 nw)) r k hn hw sm sh0 (by omega) g2 st0 g3 (λz=>by have:=l3 _ _ ly.tt;rw[z,f3]at this;cases this) en ly.kq nd hN (λz hz=>⟨sN z hz,hin z hz⟩) (λy hy=>?_) ⟨.head _,.tail _ (.head _),λz hz=>.tail _ (.tail _ (dw.mpr ⟨z,hz,rfl⟩))⟩ (λq hq=>?_) (λq hq=>?_) λG' r14 M' c'=>h G' _ _ _ r14 M' c'
 .obtain⟨z,z1,z2,z3,_⟩:=kp y hy;exact⟨z,z1,z2,z3⟩
 .rcases je.mp hq with rfl|hq
  .rw[sh0];exact λz=>nomatch z
  .rcases je.mp hq with rfl|hq
   .rw[st0];exact λz=>nomatch z
   .obtain⟨z,hz,rfl⟩:=dw.mp hq;rw[sN z hz];exact λz=>nomatch z
 .rcases je.mp hq with rfl|hq
  .exact fr _ f3
  .obtain⟨y,hy,rfl⟩:=dw.mp hq;obtain⟨_,_,_,_,z4⟩:=kp y hy;exact fr _ z4
end
section
variable{a m:bw}{ns:List Int}{l0:Int}{n:Nat}{W:List Wk}
theorem L25.aNJ(w:L25 A a ns sp lp ss ls sh xZ x y g st st2 m n M c W G)(wk:∀z∈W',z.1.1∈ss):L25 A a ns sp lp ss ls sh xZ x y g st st2 m n M c W' (aH G m (.uV (wN W'))):=by
 have o:∀q u,G q=aj u->(∀kvs,u≠.uV kvs)->aH G m (.uV (wN W')) q=aj u:=λq u e nu=>by
  rw[aN λz=>by rw[z,w.hm]at e;exact nu _ (iz.inj e).symm];exact e
 exact⟨o _ _ w.hG (λ_ z=>nomatch z),o _ _ w.hs (λ_ z=>nomatch z),o _ _ w.hl (λ_ z=>nomatch z),⟨w.s.o,o _ _ w.s.sh (λ_ z=>nomatch z),o _ _ w.s.st (λ_ z=>nomatch z),λz hz=>o _ _ (w.s.ins z hz) (λ_ z=>nomatch z)⟩,⟨w.s2.o,o _ _ w.s2.sh (λ_ z=>nomatch z),o _ _ w.s2.st (λ_ z=>nomatch z),λz hz=>nomatch hz⟩,aD,w.v,w.ne,wk⟩
theorem asO{j:Nat}(hj:j<6)(w:L25 A a ns sp lp (s0::ss) (l0::ls) sh xZ x y g st st2 m n M c W G)(r:Rl M c W)(k:Cs (s0::ss) (l0::ls) x y)(hn:n<=3*j)(hw:W.length<=j)(sm:∀k,nU (cI M c k)<=100*j)
  (h:∀G' r8 r9 r10 r11 r12 r13 r14 n' M' c' W',L25 A a ns sp lp (s0::ss) (l0::ls) sh xZ x y g st st2 m n' M' c' W' G'->Rl M' c' W'->n'<=3*(j+1)->W'.length<=j+1->(∀k,nU (cI M' c' k)<=100*((j+1:Nat):Int))->F.nx [aj (.ref a),r1,aj (.ref sp),aj (.ref lp),aj (.ref sh),r5,aj (.ref m),aj (.int j),r8,r9,r10,r11,r12,r13,r14] G') :
  a88 K A ex F [aj (.ref a),r1,aj (.ref sp),aj (.ref lp),aj (.ref sh),r5,aj (.ref m),aj (.int j),r8,r9,r10,r11,r12,r13,r14] G:=by
 have big:10000<cu:=by decide
 have k3:=k.s3;have k2:=k.l2;exists a88;rw[show(5:Int)+(j:Int)=((5+j:Nat):Int) by omega];refine a3C (k:=5+j) w.hG (by omega) ?_;generalize cellAt ns (5+j)=cc;exists a87;refine ai4 (iH w.hs) (by omega) (by rw[dj,k3];omega) λd hd=>?_;obtain⟨s,hs,rfl⟩:=dw.mp hd;walk_at "wr";refine ai4 (iH w.hl) (by omega) (by rw[dj,k2];omega) λd hd=>?_;obtain⟨l,hl,rfl⟩:=dw.mp hd;exists a86;obtain⟨am,ea⟩:∃am,am=1+cc / 6%100:=⟨_,rfl⟩;rw[←ea];have ha:1<=am/\am<=100:=by omega
 clear ea;exists a85;refine⟨by rw[dU w.s.sh (m:="put") rfl];trivial,?_⟩;refine w_putI (a:=s.1) (p:=s.2) w.s w.v (by omega) (k.bl l hl) (k.bs s hs) (by omega) (by omega) (by have:=sm (ky s.1 s.2);omega) λM1 c1 G1 s1 v1 ch1 o1 k1=>?_;have w1:=((w.le (alJ (S:=[]) (.refl _) λq hq=>nomatch hq)).chg (S:=[]) (λq hq=>nomatch hq) s1 v1 k1).le a8I;exists a84;refine⟨⟨_,w1.hm⟩,nk (s,l),wN W,0,rfl,rfl,w1.hm,?_⟩;rw[alG];walk_at "wr";refine⟨nk (s,l),wN W,_,rfl,rfl,w1.hm,by rw[dj];omega,?_⟩;rw[aEQ];have r1':=r.put (q:=s) ha.1 ch1 o1;have lw:(bQ W (s,l) ((aJ W (s,l)).getD 0+am)).length<=W.length+1:=aJZ
 have sm1:∀kk,nU (cI M1 c1 kk)<=100*((j+1:Nat):Int):=λkk=>by
  by_cases e:kk=kq s
  .rw[e];have a:nU (cI M1 c1 (kq s))=nU (cI M c (kq s))+am:=ch1.2;have:=sm (kq s);omega
  .rw[o1 _ e];have:=sm kk;omega
 refine aF1 (w1.aNJ λz hz=>?_) r1' k (by omega) (by omega) (by have:=sm1 (kq s0);omega) λG' r11 r12 r13 r14 M' c' w' r' sm'=>h G' _ _ _ r11 r12 r13 r14 _ M' c' _ w' r' (by omega) (by omega) λkk=>by rw[sm'];exact sm1 kk
 rcases aJY hz with hz|rfl
 .exact w.wk z hz
 .exact hs
end
theorem aK0{j:Int}{b:Bool}(h:∀k,(k=i∨k=j)->R (.int k) (aH G p (.lst [.int i,.int j]))):d7 (.ref p) (.int (if b=ak then 1 else 0)) (aH G p (.lst [.int i,.int j])) R:=by
 refine ai4 dM (by split<;>decide) (by simp;split<;>decide) ?_;exact all_cons (h _ (.inl rfl)) (all_cons (h _ (.inr rfl)) all_nil)
theorem aF2{a:bw}(hG:G a=aj (.rol (ns.map D.int))){k:Nat}(hk:k<900)(h:∀x y g:Nat,OkP x y g->R (plD x y g) G):nR K A [.ref a,.int (k:Int)] G R EX:=by
 refine⟨rfl,?_⟩;show wH K A _ _ [aj (.ref a),aj (.int k),bh,bh,bh,bh] G;exists wH;refine a3C (k:=k) hG (by omega) ?_;exists z7;rw[show(k:Int)+1=((k+1:Nat):Int) by omega];refine a3C (k:=k+1) hG (by omega) ?_;generalize cellAt ns k=c;generalize cellAt ns (k+1)=c2;exists z6;intro p hp;refine aK0 λx hx=>?_;exists yZ;intro p2 hp2;refine aK0 λy hy=>?_;exists yX;have z:=ax5 (h x.toNat y.toNat (1+c / 104%20).toNat ⟨by omega,by omega,by omega,by omega,by omega,by omega⟩) ((Le.new (o:=.lst [D.int (1+c%4),D.int (1+c%26)]) hp).trans (.new (o:=.lst [D.int (1+c2%6),D.int (1+c2%99)]) hp2));unfold plD at z;rw[Int.toNat_of_nonneg (by omega),Int.toNat_of_nonneg (by omega),Int.toNat_of_nonneg (by omega)]at z;exact z
theorem alK{y g:Nat}(o:OkP x y g)(hr:1<=room/\room<=1000000)(h0:G sh=aj (.ins A.aC []))(h:∀st G',G' sh=aj (shG A x y g room st)->G' st=aj (.bC ak [])->G st=bh->(∀q u,q≠sh->G q=aj u->G' q=aj u)->R .non G'):cX K A [.ref sh,plD x y g,.int room] G R EX:=by
 refine⟨rfl,?_⟩;show j7 K A _ _ [aj (.ref sh),aj (plD x y g),aj (.int room)] G;exists j7;refine ab2 o ?_;exists mV;refine a8A hr ?_;exists mU;rw[acU h0 (by decide)];generalize hG1:aH G sh _=G1;have s1:G1 sh=aj (.ins A.aC [("layout",plD x y g)]):=by rw[←hG1,aD];rfl
 exists mR;rw[acU s1 (by show 1<1000;decide)];generalize hG2:aH G1 sh _=G2;have s2:G2 sh=aj (.ins A.aC [("layout",plD x y g),("room",.int room)]):=by rw[←hG2,aD];rfl
 exists mQ;intro st hst;have ne:st≠sh:=λz=>by rw[z,s2]at hst;cases hst
 rw[acU (dX s2 hst) (by show 2<1000;decide)];refine bZ.here (h st _ (by rw[aD];rfl) (by rw[aN ne,aD]) (by rw[←hG2,aN ne,←hG1,aN ne]at hst;exact hst) λq u n z=>?_);rw[aN n];refine dX ?_ hst;rw[←hG2,aN n,←hG1,aN n];exact z
theorem aK1{a:bw}(hG:G a=aj (.rol (ns.map D.int)))(h:∀G',R (.bl ak) G'):acX K A [.ref a] G R EX:=by
 have big:10000<cu:=by decide
 refine⟨rfl,?_⟩;have h':∀G',bZ R (.bl ak) G':=λG'=>bZ.here (h G');clear h;show as5 K A _ _ [aj (.ref a),bh,bh,bh,bh,bh,bh,bh,bh,bh,bh,bh,bh,bh,bh] G;exists as5;refine aF2 (k:=0) hG (by omega) λx y g o=>?_;have x0:=o.x0;have y0:=o.y0;exists al7;rw[show plD x y g=.tup [.int x,.int y,.int g]from rfl];walk_at "wr";intro sp f1;have l1:Le G (aH G sp (.lst [.tup [.int 0,.int 1],.tup [.int ((x:Int) - 1),.int 1],.tup [.int ((x:Int) - 1),.int y]])):=.new f1;have hs1:(aH G sp (.lst [.tup [.int 0,.int 1],.tup [.int ((x:Int) - 1),.int 1],.tup [.int ((x:Int) - 1),.int y]])) sp=aj (.lst ([((0:Int),(1:Int)),((x:Int) - 1,1),((x:Int) - 1,(y:Int))].map cY)):=aD;generalize aH G sp _=G1 at l1 hs1 ⊢;have hG1:=l1 _ _ hG;exists al6;refine a3C (k:=2) hG1 (by omega) ?_;generalize cellAt ns 2=c2;walk_at "wr";refine a3C (k:=3) hG1 (by omega) ?_;generalize cellAt ns 3=c3;walk_at "wr";intro lp f2;have l2:Le G1 (aH G1 lp (.lst [.int (c2%1000),.int (c3%1000)])):=.new f2;have hl2:(aH G1 lp (.lst [.int (c2%1000),.int (c3%1000)])) lp=aj (.lst ([c2%1000,c3%1000].map D.int)):=aD;generalize aH G1 lp _=G2 at l2 hl2 ⊢;have hG2:=l2 _ _ hG1;have hs2:=l2 _ _ hs1
 have ks:Cs [((0:Int),(1:Int)),((x:Int) - 1,1),((x:Int) - 1,(y:Int))] [c2%1000,c3%1000] x y:=by
  refine⟨rfl,rfl,λq hq=>?_,λl hl=>?_⟩
  .simp only[je,List.not_mem_nil,or_false]at hq;rcases hq with rfl|rfl|rfl
   .exact⟨by omega,by show(0:Int)<x;omega,by omega,by show(1:Int)<=y;omega⟩
   .exact⟨by show(0:Int)<=x - 1;omega,by show(x:Int) - 1<x;omega,by omega,by show(1:Int)<=y;omega⟩
   .exact⟨by show(0:Int)<=x - 1;omega,by show(x:Int) - 1<x;omega,by show(1:Int)<=y;omega,by show(y:Int)<=y;omega⟩
  .simp only[je,List.not_mem_nil,or_false]at hl;rcases hl with rfl|rfl
   .omega
   .omega
 exists al5;intro sh hsh;have n0:a≠sh:=λz=>by rw[←z,hG2]at hsh;cases hsh
 have n1:sp≠sh:=λz=>by rw[←z,hs2]at hsh;cases hsh
 have n2:lp≠sh:=λz=>by rw[←z,hl2]at hsh;cases hsh
 refine alK o (by omega) aD λst G3 s3 d3 _ k3=>⟨rfl,?_⟩;have hG3:=k3 _ _ n0 ((Le.new hsh) _ _ hG2);have hs3:=k3 _ _ n1 ((Le.new hsh) _ _ hs2);have hl3:=k3 _ _ n2 ((Le.new hsh) _ _ hl2);exists al4;intro xZ zX;have m0:a≠xZ:=λz=>by rw[←z,hG3]at zX;cases zX
 have m1:sp≠xZ:=λz=>by rw[←z,hs3]at zX;cases zX
 have m2:lp≠xZ:=λz=>by rw[←z,hl3]at zX;cases zX
 have m3:sh≠xZ:=λz=>by rw[←z,s3]at zX;cases zX
 have m4:st≠xZ:=λz=>by rw[←z,d3]at zX;cases zX
 refine alK o (by omega) aD λst2 G4 s4 d4 ns4 k4=>⟨rfl,?_⟩;have ne:st2≠st:=λz=>by rw[z,aN m4,d3]at ns4;cases ns4
 have hG4:=k4 _ _ m0 ((Le.new zX) _ _ hG3);have hs4:=k4 _ _ m1 ((Le.new zX) _ _ hs3);have hl4:=k4 _ _ m2 ((Le.new zX) _ _ hl3);have s5:=k4 _ _ m3 ((Le.new zX) _ _ s3);have d5:=k4 _ _ m4 ((Le.new zX) _ _ d3);exists al3;intro m fm;have l5:Le G4 (aH G4 m (.uV [])):=.new fm;have w0:L25 A a ns sp lp [((0:Int),(1:Int)),((x:Int) - 1,1),((x:Int) - 1,(y:Int))] [c2%1000,c3%1000] sh xZ x y g st st2 m 0 [] (λ_=>[]) [] (aH G4 m (.uV [])):=⟨l5 _ _ hG4,l5 _ _ hs4,l5 _ _ hl4,⟨o,l5 _ _ s5,l5 _ _ d5,λz hz=>nomatch hz⟩,⟨o,l5 _ _ s4,l5 _ _ d4,λz hz=>nomatch hz⟩,aD,Shv.nil,ne,λz hz=>nomatch hz⟩;generalize aH G4 m _=G5 at w0 ⊢;exists al2;refine a3C (k:=4) w0.hG (by omega) ?_;generalize cellAt ns 4=c4;walk_at "wr";refine arM (λk ρ G'=>∃r7 r8 r9 r10 r11 r12 r13 r14 n M c W,ρ=[aj (.ref a),aj (.tup [.int x,.int y,.int g]),aj (.ref sp),aj (.ref lp),aj (.ref sh),aj (.ref xZ),aj (.ref m),r7,r8,r9,r10,r11,r12,r13,r14]/\L25 A a ns sp lp [((0:Int),(1:Int)),((x:Int) - 1,1),((x:Int) - 1,(y:Int))] [c2%1000,c3%1000] sh xZ x y g st st2 m n M c W G'/\Rl M c W/\n<=3*k/\W.length<=k/\∀kk,nU (cI M c kk)<=100*(k:Int)) ⟨_,_,_,_,_,_,_,_,_,_,_,_,rfl,w0,⟨a0q,(λz hz=>nomatch hz),λa p l=>rfl⟩,dz _,dz _,λkk=>a1f 0⟩ (λk ρ G' hk z=>?_) λρ G' z=>?_
 .obtain⟨r7,r8,r9,r10,r11,r12,r13,r14,n,M,c,W,rfl,w,r,hn,hw,sm⟩:=z;have hk2:k<6:=by omega
  walk_at "wr";exact asO hk2 w r ks hn hw sm λG' r8 r9 r10 r11 r12 r13 r14 n' M' c' W' w' r' n1 n2 n3=>⟨_,_,_,_,_,_,_,_,_,_,_,_,rfl,w',r',n1,n2,n3⟩
 obtain⟨r7,r8,r9,r10,r11,r12,r13,r14,n,M,c,W,rfl,w,r,hn,hw,sm⟩:=z;exists al1;refine⟨by rw[dU w.s2.sh (m:="lying") rfl];trivial,?_⟩;refine a5Y w.s2 Shv.nil (by omega) λt qs N c' G6 l6 ly=>?_;have eN:N=[]:=List.length_eq_zero_iff.mp (by have:=ly.ke.length_eq;simpa using this);subst eN;intro e fe;have l7:=Le.new (o:=.bC ak []) fe;refine axO (neg:=false) (M:=[]) (N:=[]) (c:=λ_=>[]) (l7 _ _ ly.tt) aD (λz hz=>nomatch hz) ?_;have w6:=w.le (l6.trans l7);refine⟨by rw[dU w6.s2.sh (m:="held") rfl];trivial,?_⟩;rw[ix0 w6.hs];refine ad7 (W:=[]) w6.s2 Shv.nil (by omega) (by omega) ⟨a0q,(λz hz=>nomatch hz),λa p l=>rfl⟩ (ks.bs _ (.head _)) λrr qs G8 l8 f8 g8 i8 _=>?_;have eq:qs=[]:=List.eq_nil_iff_forall_not_mem.mpr λz hz=>by have:=(i8.2 z.1 z.2).mp hz;cases this
 subst eq;intro b fb;rw[a7E (xs:=[]) (ys:=[]) (iH ((Le.new fb) _ _ g8)) dM rfl rfl];exact h' _
theorem main(T:Txt K mg A)(a:bw)(ns:List Int)(hl:ns.length<=63)(G:Gp)(hG:G a=aj (.rol (ns.map D.int))):acX K A [.ref a] G (λd _=>d=.bl ak) (λ_ _=>False):=aK1 hG λ_=>rfl
end
end Law
namespace Law
open PySem PySem.Spec PyProof.Rows L2 L4
variable{qt:Bool}{x:Str}{st:qp}{f:bw}{ps:List Str}
section
variable{P:jo}{w:jf}{K:Fg}{mg:Str->Option aq}{base:jj}{A:bD}
local macro_rules| `(tactic| walk_at "sc")=>`(tactic| exact⟨rfl,rfl,rfl,by decide+kernel,rfl,by decide+kernel,by decide+kernel⟩)
theorem zY{j k:Nat}{d:kh}{sp:pH}{n:Nat}(h:cC qt P w K mg base (jZ P w) j f d ps (cO K sp))(t:FnT K mg x st f d ps)(hj:j<=k:=by decide):GTs P w K mg base k x (.fn sp n qt):=⟨_,_,_,h.mono hj,t.m,t.F.kp,t.B⟩
theorem ExT.g{k:Nat}(t:ExT K mg x c):GTs P w K mg base k x (.cls c):=⟨t.m,t.x,t.cs,t.ty,t.be⟩
theorem dc{qual:Str}{fd:kh}{k:Nat}{S:SI}{c:CB}{tb:aX->bK}(F:Fun K x qual st f fd)(hS:bA S.N ps (aV st))(hc:S.calm=!qt)(hv:aaT S (aV st)=ak)(hk:kB S 0 c (bT st)=ak)(he:(λEX=>mB S.gl K (λ_=>EX) c)=tb)(hg:∀(j:Nat)(y:Str)(g:GT),S.gl[j]?=aj (y,g)->GTs P w K mg base k y g):cC qt P w K mg base (jZ P w) (k+1) f fd ps (cO K (zL S.N.length ps.length tb)):=by
 rw[←he];exact ar5 F hS hc hv hk hg
theorem asQ(T:Txt K mg A):cC ao P w K mg base (jZ P w) 1 A.al0 A.a5V ["k"] (cO K (a7S K A)) :=
 dc (S:=axT K A) (c:=axS) T.xP.F (show bA ["k"] ["k"] _ from by walk_at "sc") rfl (by kernel_rfl) (by kernel_rfl) (by kernel_rfl) gln
theorem qG(T:Txt K mg A):cC ao P w K mg base (jZ P w) 1 A.a7M A.tO ["thing","least","most"] (cO K (c7 K A)) :=
 dc (S:=aiA K A) (c:=ai9) T.fJ.F (show bA ["thing","least","most"] ["thing","least","most"] _ from by walk_at "sc") rfl (by kernel_rfl) (by kernel_rfl) (by kernel_rfl) (cU ⟨T.azP,aoV⟩ (cU ⟨T.u5,qK⟩ (cU ⟨T.aEM,auZ⟩ gln)))
theorem aiR(T:Txt K mg A):cC ao P w K mg base (jZ P w) 2 A.ab0 A.xK ["thing","aisles","first","last"] (cO K (tY K A)) :=
 dc (S:=an4 K A) (c:=an3) T.nY.F (show bA ["thing","aisles","first","last"] ["thing","aisles","first","last"] _ from by walk_at "sc") rfl (by kernel_rfl) (by kernel_rfl) (by kernel_rfl) (cU ⟨T.al9,ae9⟩ (cU ⟨T.u5,qK⟩ (cU ⟨T.al8,ac0⟩ (cU (zY (qG T) T.fJ) gln))))
theorem adA(T:Txt K mg A):cC ao P w K mg base (jZ P w) 2 A.a4E A.pW ["thing"] (cO K (nQ K A)) :=
 dc (S:=afM K A) (c:=afL) T.jF.F (show bA ["thing"] ["thing"] _ from by walk_at "sc") rfl (by kernel_rfl) (by kernel_rfl) (by kernel_rfl) (cU (gcI T.iW) (cU (zY (qG T) T.fJ) gln))
theorem aiS(T:Txt K mg A):cC ao P w K mg base (jZ P w) 2 A.ab1 A.xM ["thing"] (cO K (tZ K A)) :=
 dc (S:=an6 K A) (c:=an5) T.nZ.F (show bA ["thing"] ["thing"] _ from by walk_at "sc") rfl (by kernel_rfl) (by kernel_rfl) (by kernel_rfl) (cU ⟨T.al9,ae9⟩ (cU ⟨T.u5,qK⟩ (cU ⟨T.al8,ac0⟩ (cU (gcI T.iU) (cU (zY (qG T) T.fJ) (cU (gcI T.iV) (cU (gcI T.p8) gln)))))))
theorem a1Q(T:Txt K mg A):cC ao P w K mg base (jZ P w) 3 A.a4F A.pX ["plan"] (cO K (fH K A)) :=
 dc (S:=afO K A) (c:=afN) T.gW.F (show bA ["plan"] ["plan"] _ from by walk_at "sc") rfl (by kernel_rfl) (by kernel_rfl) (by kernel_rfl) (cU (zY (aiS T) T.nZ) (cU T.wQ.g gln))
theorem anB(T:Txt K mg A):cC ao P w K mg base (jZ P w) 4 A.afJ A.a0V ["plan","thing"] (cO K (xO K A)) :=
 dc (S:=arZ K A) (c:=arY) T.sH.F (show bA ["plan","thing"] ["plan","thing"] _ from by walk_at "sc") rfl (by kernel_rfl) (by kernel_rfl) (by kernel_rfl) (cU (zY (a1Q T) T.gW) (cU (zY (aiR T) T.nY) gln))
theorem qH(T:Txt K mg A):cC ao P w K mg base (jZ P w) 2 A.a7N A.tQ ["thing","lots"] (cO K (cN K A)) :=
 dc (S:=aiC K A) (c:=aiB) T.fK.F (show bA ["thing","lots"] ["thing","lots"] _ from by walk_at "sc") rfl (by kernel_rfl) (by kernel_rfl) (by kernel_rfl) (cU (zY (qG T) T.fJ) (cU T.a1I.g gln))
theorem mY(T:Txt K mg A):cC ao P w K mg base (jZ P w) 5 A.a7O A.tR ["plan","thing"] (cO K (cA K A)) :=
 dc (S:=aiE K A) (c:=aiD) T.dR.F (show bA ["plan","thing"] ["plan","thing"] _ from by walk_at "sc") rfl (by kernel_rfl) (by kernel_rfl) (by kernel_rfl) (cU (zY (anB T) T.sH) (cU T.a1H.g gln))
theorem pC(T:Txt K mg A):cC ao P w K mg base (jZ P w) 3 A.yV A.m8 ["thing"] (cO K (cD K A)) :=
 dc (S:=a9E K A) (c:=a9D) T.d9.F (show bA ["thing"] ["thing"] _ from by walk_at "sc") rfl (by kernel_rfl) (by kernel_rfl) (by kernel_rfl) (cU (zY (adA T) T.jF) (cU T.oZ.g gln))
theorem ab9(T:Txt K mg A):cC ao P w K mg base (jZ P w) 1 A.afK A.a0W ["stacks","spot","lot","more"] (cO K (fY K A)) :=
 dc (S:=as4 K A) (c:=as3) T.oU.F (show bA ["stacks","spot","lot","more","held"] ["stacks","spot","lot","more"] _ from by walk_at "sc") rfl (by kernel_rfl) (by kernel_rfl) (by kernel_rfl) (cU ⟨T.al8,ac0⟩ gln)
theorem ag5(T:Txt K mg A):cC ao P w K mg base (jZ P w) 1 A.a7P A.tU ["stacks"] (cO K (wC K A)) :=
 dc (S:=aiG K A) (c:=aiF) T.lJ.F (show bA ["stacks","told","spot"] ["stacks"] _ from by walk_at "sc") rfl (by kernel_rfl) (by kernel_rfl) (by kernel_rfl) (cU ⟨T.pA,lC⟩ (cU ⟨T.pA,lC⟩ (cU ⟨T.acZ,a5J⟩ gln)))
theorem yC(T:Txt K mg A):cC ao P w K mg base (jZ P w) 4 A.bF A.fG ["self","plan","room"] (cO K (cX K A)) :=
 dc (S:=zQ K A) (c:=dD) T.zV (show bA ["self","plan","room"] ["self","plan","room"] _ from by walk_at "sc") rfl (by kernel_rfl) (by kernel_rfl) (by kernel_rfl) (cU (zY (a1Q T) T.gW) (cU (zY (pC T) T.d9) (cU ⟨T.aP,T.cQ⟩ (cU ⟨T.aP,T.uP⟩ (cU ⟨T.aP,T.bO⟩ gln)))))
theorem a1R(T:Txt K mg A):cC ao P w K mg base (jZ P w) 6 A.eF A.eG ["self","spot"] (cO K (gB K A)) :=
 dc (S:=a2U K A) (c:=a2T) T.lK (show bA ["self","spot"] ["self","spot"] _ from by walk_at "sc") rfl (by kernel_rfl) (by kernel_rfl) (by kernel_rfl) (cU ⟨T.aP,T.cQ⟩ (cU (zY (mY T) T.dR) (cU ⟨T.aJN,aBW⟩ (cU ⟨T.aP,T.bO⟩ gln))))
theorem wV(T:Txt K mg A):cC ao P w K mg base (jZ P w) 7 A.cV A.cW ["self","spot","amount"] (cO K (dN K A)) :=
 dc (S:=xX K A) (c:=xW) T.iJ (show bA ["self","spot","amount"] ["self","spot","amount"] _ from by walk_at "sc") rfl (by kernel_rfl) (by kernel_rfl) (by kernel_rfl) (cU (⟨_,_,_,[],[],T.aP,T.a3A,(a1R T).mono (by decide),T.lM,.nil,λ_=>.nil⟩) (cU ⟨T.aP,T.uP⟩ (cU T.wR.g gln)))
theorem a8J(T:Txt K mg A):cC ao P w K mg base (jZ P w) 8 A.iR A.iT ["self","lot","spot","amount"] (cO K (eY K A)) :=
 dc (S:=a9G K A) (c:=a9F) T.qX (show bA ["self","lot","spot","amount"] ["self","lot","spot","amount"] _ from by walk_at "sc") rfl (by kernel_rfl) (by kernel_rfl) (by kernel_rfl) (cU (gcI T.fC) (cU (zY (qH T) T.fK) (cU ⟨T.aP,T.cQ⟩ (cU (zY (mY T) T.dR) (cU (zY (pC T) T.d9) (cU (⟨_,_,_,[],[],T.aP,T.xY,(wV T).mono (by decide),T.iK,.nil,λ_=>.nil⟩) (cU ⟨T.aP,T.bO⟩ (cU (zY (ab9 T) T.oU) gln))))))))
theorem a1S(T:Txt K mg A):cC ao P w K mg base (jZ P w) 6 A.eO A.eU ["self","lot","spot"] (cO K (gC K A)) :=
 dc (S:=a2W K A) (c:=a2V) T.lO (show bA ["self","lot","spot"] ["self","lot","spot"] _ from by walk_at "sc") rfl (by kernel_rfl) (by kernel_rfl) (by kernel_rfl) (cU (gcI T.fC) (cU (zY (qH T) T.fK) (cU ⟨T.aP,T.cQ⟩ (cU (zY (mY T) T.dR) (cU ⟨T.aP,T.bO⟩ gln)))))
theorem uW(T:Txt K mg A):cC ao P w K mg base (jZ P w) 7 A.cL A.cM ["self","lot","spot","amount"] (cO K (dH K A)) :=
 dc (S:=wF K A) (c:=wD) T.gY (show bA ["self","lot","spot","amount"] ["self","lot","spot","amount"] _ from by walk_at "sc") rfl (by kernel_rfl) (by kernel_rfl) (by kernel_rfl) (cU (⟨_,_,_,[],[],T.aP,T.a3B,(a1S T).mono (by decide),T.lQ,.nil,λ_=>.nil⟩) (cU T.mW.g gln))
theorem a4Z(T:Txt K mg A):cC ao P w K mg base (jZ P w) 8 A.gO A.gP ["self","lot","spot","amount"] (cO K (dJ K A)) :=
 dc (S:=a7X K A) (c:=a7W) T.oW (show bA ["self","lot","spot","amount"] ["self","lot","spot","amount"] _ from by walk_at "sc") rfl (by kernel_rfl) (by kernel_rfl) (by kernel_rfl) (cU (gcI T.fC) (cU (zY (qH T) T.fK) (cU ⟨T.aP,T.cQ⟩ (cU (zY (mY T) T.dR) (cU (zY (pC T) T.d9) (cU (⟨_,_,_,[],[],T.aP,T.wM,(uW T).mono (by decide),T.gZ,.nil,λ_=>.nil⟩) (cU ⟨T.aP,T.bO⟩ (cU (zY (ab9 T) T.oU) gln))))))))
theorem anC(T:Txt K mg A):cC ao P w K mg base (jZ P w) 2 A.fU A.fV ["self","lot","one","other","amount"] (cO K (a2X K A)) :=
 dc (S:=a4W K A) (c:=a4V) T.n6 (show bA ["self","lot","one","other","amount"] ["self","lot","one","other","amount"] _ from by walk_at "sc") rfl (by kernel_rfl) (by kernel_rfl) (by kernel_rfl) (cU (zY (asQ T) T.xP) gln)
theorem uQ(T:Txt K mg A):cC ao P w K mg base (jZ P w) 6 A.gQ A.gR ["self","spot"] (cO K (cT K A)) :=
 dc (S:=a7Z K A) (c:=a7Y) T.oY (show bA ["self","spot"] ["self","spot"] _ from by walk_at "sc") rfl (by kernel_rfl) (by kernel_rfl) (by kernel_rfl) (cU ⟨T.aP,T.cQ⟩ (cU (zY (mY T) T.dR) (cU ⟨T.pA,lC⟩ (cU ⟨T.aP,T.bO⟩ gln))))
theorem qI(T:Txt K mg A):cC ao P w K mg base (jZ P w) 3 A.eV A.eX ["self","lot"] (cO K (cF K A)) :=
 dc (S:=a2Z K A) (c:=a2Y) T.lR (show bA ["self","lot"] ["self","lot"] _ from by walk_at "sc") rfl (by kernel_rfl) (by kernel_rfl) (by kernel_rfl) (cU (gcI T.fC) (cU (zY (qH T) T.fK) (cU ⟨T.aP,T.bO⟩ (cU ⟨T.pA,lC⟩ gln))))
theorem sO(T:Txt K mg A):cC ao P w K mg base (jZ P w) 2 A.fW A.fX ["self"] (cO K (cB K A)) :=
 dc (S:=a4Y K A) (c:=a4X) T.n8 (show bA ["self"] ["self"] _ from by walk_at "sc") rfl (by kernel_rfl) (by kernel_rfl) (by kernel_rfl) (cU ⟨T.aP,T.bO⟩ (cU (zY (ag5 T) T.lJ) gln))
theorem uR(T:Txt K mg A):cC ao P w K mg base (jZ P w) 1 A.vY A.jR ["_law_script","_law_k"] (cO K (bM K A)) :=
 dc (S:=a81 K A) (c:=a80) T.dF.F (show bA ["_law_script","_law_k","_law_mixed"] ["_law_script","_law_k"] _ from by walk_at "sc") rfl (by kernel_rfl) (by kernel_rfl) (by kernel_rfl) (cU ⟨T.al8,ac0⟩ gln)
theorem adB(T:Txt K mg A):cC ao P w K mg base (jZ P w) 2 A.a4G A.pY ["_law_script","_law_k"] (cO K (nR K A)) :=
 dc (S:=afQ K A) (c:=afP) T.jG.F (show bA ["_law_script","_law_k","_law_cell","_law_other","_law_aisles","_law_places"] ["_law_script","_law_k"] _ from by walk_at "sc") rfl (by kernel_rfl) (by kernel_rfl) (by kernel_rfl) (cU (zY (uR T) T.dF) (cU ⟨T.azP,aoV⟩ gln))
theorem adC(T:Txt K mg A):cC ao P w K mg base (jZ P w) 7 A.a4H A.pZ ["_law_shelves","_law_spots","_law_lots"] (cO K (iD K A)) :=
 dc (S:=afS K A) (c:=afR) T.jH.F (show bA ["_law_shelves","_law_spots","_law_lots","_law_found"] ["_law_shelves","_law_spots","_law_lots"] _ from by walk_at "sc") rfl (by kernel_rfl) (by kernel_rfl) (by kernel_rfl) (cU (⟨_,_,_,[],[],T.aP,T.wO,(uQ T).mono (by decide),T.jT,.nil,λ_=>.nil⟩) (cU (⟨_,_,_,[],[],T.aP,T.sI,(qI T).mono (by decide),T.iG,.nil,λ_=>.nil⟩) (cU (⟨_,_,_,[],[],T.aP,T.uO,(sO T).mono (by decide),T.j4,.nil,λ_=>.nil⟩) (cU ⟨T.as6,ajR⟩ gln))))
theorem ag6(T:Txt K mg A):cC ao P w K mg base (jZ P w) 1 A.a7Q A.tV ["_law_model","_law_spots","_law_lots"] (cO K (jE K A)) :=
 dc (S:=aiI K A) (c:=aiH) T.lU.F (show bA ["_law_model","_law_spots","_law_lots","_law_held","_law_spot","_law_places","_law_lot","_law_lying"] ["_law_model","_law_spots","_law_lots"] _ from by walk_at "sc") rfl (by kernel_rfl) (by kernel_rfl) (by kernel_rfl) (cU ⟨T.pA,lC⟩ (cU ⟨T.pA,lC⟩ (cU ⟨T.acZ,a5J⟩ (cU ⟨T.pA,lC⟩ gln))))
theorem aF3(T:Txt K mg A):cC ao P w K mg base (jZ P w) 9 A.a7R A.azO ["_law_script"] (cO K (acX K A)) :=
 dc (S:=aJL K A) (c:=afT) T.aJM.F (show bA ["_law_script","_law_plan_here","_law_spots","_law_lots","_law_shelves","_law_beside","_law_model","_law_k","_law_cell","_law_pair","_law_amount","_law_held","_law_lying","_law_kept","_law_key"] ["_law_script"] _ from by walk_at "sc") rfl (by kernel_rfl) (by kernel_rfl) (by kernel_rfl) (cU (zY (adB T) T.jG) (cU (zY (uR T) T.dF) (cU (T.zW.elim λt b=>⟨_,_,_,_,[.int 1000 t],[.int 1000],rfl,T.aiL,(yC T).mono (by decide),T.aiM,b,.cons ⟨t,rfl⟩ .nil,λ_=>.cons (.int _) .nil⟩) (cU ⟨T.axU,ar6⟩ (cU (⟨_,_,_,[],[],T.aP,T.a9H,(a8J T).mono (by decide),T.qY,.nil,λ_=>.nil⟩) (cU (⟨_,_,_,[],[],T.aP,T.wO,(uQ T).mono (by decide),T.jT,.nil,λ_=>.nil⟩) (cU (⟨_,_,_,[],[],T.aP,T.uO,(sO T).mono (by decide),T.j4,.nil,λ_=>.nil⟩) (cU (zY (adC T) T.jH) (cU (zY (ag6 T) T.lU) (cU ⟨T.as6,ajR⟩ (cU ⟨T.acZ,a5J⟩ (cU ⟨T.acZ,a5J⟩ (cU (⟨_,_,_,[],[],T.aP,T.a89,(a4Z T).mono (by decide),T.oX,.nil,λ_=>.nil⟩) (cU (⟨_,_,_,[],[],T.aP,T.sI,(qI T).mono (by decide),T.iG,.nil,λ_=>.nil⟩) gln))))))))))))))
end
noncomputable def alL(K:Fg):Sp:=λvs H Q _=>∃(a:bw)(ns:List Int),vs=[.ref a]/\yJ K H a (ns.map V.int)/\ns.length<=63/\∀H',Q (.bl ak) H'
variable{mg:Str->Option aq}
theorem ay7{K:Fg}{A:bD}(T:Txt K mg A):∀vs H Q E,alL K vs H Q E->cO K (acX K A) vs H Q E:=by
 rintro vs H Q E ⟨a,ns,rfl,hS,hl,k⟩;refine⟨[.ref a],λb=>if b=a then aj (.rol (ns.map D.int))else bh,λd _=>d=.bl ak,λ_ _=>False,.cons (.ref a) .nil,λb o e=>?_,main T a ns hl _ (if_pos rfl),λv H' d G' r g e=>?_,λC H' G' g z=>z.elim⟩
 .have e2:(if b=a then aj (GO.rol (ns.map D.int))else bh)=aj o:=e;by_cases hb:b=a
  .subst hb;rw[if_pos rfl]at e2;cases e2;exact⟨_,hS,bW.ints ns⟩
  .rw[if_neg hb]at e2;cases e2
 .subst e;cases r;exact k H'
def Cb(K:Fg)(x q:Str)(st:qp)(f:bw):Prop:=∃oc kV dc pm cd ct od an sl,K.lookup f=aj ⟨oc,od,.func (ql x q (cZ st) (bT st) (aV st) .none kV dc pm an cd ct),sl⟩/\a1m K cd q=ak/\uf K (.ref f)=ak
theorem Cb.get{K:Fg}{q:Str}(b:Cb K x q st f)(ps:List Str)(h:∀kV dc pm an cd ct,∀us:List aq,us.length=ps.length->tu (ql x q (cZ st) (bT st) (aV st) .none kV dc pm an cd ct) ⟨us,[]⟩=pure (ps.zip us)):∃d,Fun K x q st f d/\Binds K d ps []/\uf K (.ref f)=ak:=by
 obtain⟨oc,kV,dc,pm,cd,ct,od,an,sl,l,c,k⟩:=b;exact⟨_,ahD (st:=st) l c k,akO (h _ _ _ _ _ _),k⟩
def Fb(K:Fg)(x:Str)(st:qp)(f:bw):Prop:=qw K ju x=aj (aj (.ref f))/\Cb K x x st f
theorem len1{q:Str}(k:∀kV dc pm an cd ct a,tu (ql q q (cZ st) (bT st) (aV st) .none kV dc pm an cd ct) ⟨[a],[]⟩=pure (ps.zip [a])):∀kV dc pm an cd ct,∀us:List aq,us.length=1->tu (ql q q (cZ st) (bT st) (aV st) .none kV dc pm an cd ct) ⟨us,[]⟩=pure (ps.zip us):=λ_ _ _ _ _ _ us h=>by
 rcases us with _|⟨a,_|⟨_,_⟩⟩<;>first|exact k _ _ _ _ _ _ a|simp at h
theorem len2{q:Str}(k:∀kV dc pm an cd ct a b,tu (ql q q (cZ st) (bT st) (aV st) .none kV dc pm an cd ct) ⟨[a,b],[]⟩=pure (ps.zip [a,b])):∀kV dc pm an cd ct,∀us:List aq,us.length=2->tu (ql q q (cZ st) (bT st) (aV st) .none kV dc pm an cd ct) ⟨us,[]⟩=pure (ps.zip us):=λ_ _ _ _ _ _ us h=>by
 rcases us with _|⟨a,_|⟨b,_|⟨_,_⟩⟩⟩<;>first|exact k _ _ _ _ _ _ a b|simp at h
theorem aF4{q:Str}(k:∀kV dc pm an cd ct a b c,tu (ql q q (cZ st) (bT st) (aV st) .none kV dc pm an cd ct) ⟨[a,b,c],[]⟩=pure (ps.zip [a,b,c])):∀kV dc pm an cd ct,∀us:List aq,us.length=3->tu (ql q q (cZ st) (bT st) (aV st) .none kV dc pm an cd ct) ⟨us,[]⟩=pure (ps.zip us):=λ_ _ _ _ _ _ us h=>by
 rcases us with _|⟨a,_|⟨b,_|⟨c,_|⟨_,_⟩⟩⟩⟩<;>first|exact k _ _ _ _ _ _ a b c|simp at h
theorem aK2{q:Str}(k:∀kV dc pm an cd ct a b c d,tu (ql q q (cZ st) (bT st) (aV st) .none kV dc pm an cd ct) ⟨[a,b,c,d],[]⟩=pure (ps.zip [a,b,c,d])):∀kV dc pm an cd ct,∀us:List aq,us.length=4->tu (ql q q (cZ st) (bT st) (aV st) .none kV dc pm an cd ct) ⟨us,[]⟩=pure (ps.zip us):=λ_ _ _ _ _ _ us h=>by
 rcases us with _|⟨a,_|⟨b,_|⟨c,_|⟨d,_|⟨_,_⟩⟩⟩⟩⟩<;>first|exact k _ _ _ _ _ _ a b c d|simp at h
theorem aQW(k:∀kV dc pm an cd ct a b c d e,tu (ql q q (cZ st) (bT st) (aV st) .none kV dc pm an cd ct) ⟨[a,b,c,d,e],[]⟩=pure (ps.zip [a,b,c,d,e])):∀kV dc pm an cd ct,∀us:List aq,us.length=5->tu (ql q q (cZ st) (bT st) (aV st) .none kV dc pm an cd ct) ⟨us,[]⟩=pure (ps.zip us):=λ_ _ _ _ _ _ us h=>by
 rcases us with _|⟨a,_|⟨b,_|⟨c,_|⟨d,_|⟨e,_|⟨_,_⟩⟩⟩⟩⟩⟩<;>first|exact k _ _ _ _ _ _ a b c d e|simp at h
variable{us:List aq}
theorem aNK(h:us.length=1)(k:∀a,tu fd ⟨[a],[]⟩=pure (ps.zip [a])):tu fd ⟨us,[]⟩=pure (ps.zip us):=match us,h with|[a],_=>k a
theorem aF5(h:us.length=2)(k:∀a b,tu fd ⟨[a,b],[]⟩=pure (ps.zip [a,b])):tu fd ⟨us,[]⟩=pure (ps.zip us):=match us,h with|[a,b],_=>k a b
theorem aK3(h:us.length=3)(k:∀a b c,tu fd ⟨[a,b,c],[]⟩=pure (ps.zip [a,b,c])):tu fd ⟨us,[]⟩=pure (ps.zip us):=match us,h with|[a,b,c],_=>k a b c
theorem aF6(h:us.length=4)(k:∀a b c d,tu fd ⟨[a,b,c,d],[]⟩=pure (ps.zip [a,b,c,d])):tu fd ⟨us,[]⟩=pure (ps.zip us):=match us,h with|[a,b,c,d],_=>k a b c d
theorem aNL(h:us.length=5)(k:∀a b c d e,tu fd ⟨[a,b,c,d,e],[]⟩=pure (ps.zip [a,b,c,d,e])):tu fd ⟨us,[]⟩=pure (ps.zip us):=match us,h with|[a,b,c,d,e],_=>k a b c d e
theorem Fb.get{K:Fg}{q:Str}{st:qp}{f:bw}{h:jj}{mg:Str->Option aq}(b:Fb K q st f)(XK:K.In h)(GG:h.Ns ju mg)(ps:List Str)(h:∀kV dc pm an cd ct,∀us:List aq,us.length=ps.length->tu (ql q q (cZ st) (bT st) (aV st) .none kV dc pm an cd ct) ⟨us,[]⟩=pure (ps.zip us)):∃d,FnT K mg q st f d ps:=by
 obtain⟨d,F,B,_⟩:=b.2.get ps h;exact⟨d,F,B,yu XK GG b.1⟩
def Mb(K:Fg)(c:bw)(x q:Str)(st:qp)(f:bw):Prop:=qg K (.ref c) x=aj (aj (.ref f))/\a1T K (.ref f)=ak/\Cb K x q st f
theorem Mb.get{K:Fg}{c:bw}{x q:Str}{st:qp}{f:bw}(b:Mb K c x q st f)(ps:List Str)(h:∀kV dc pm an cd ct,∀us:List aq,us.length=ps.length->tu (ql x q (cZ st) (bT st) (aV st) .none kV dc pm an cd ct) ⟨us,[]⟩=pure (ps.zip us)):∃d,Fun K x q st f d/\Binds K d ps []/\qg K (.ref c) x=aj (aj (.ref f))/\a1T K (.ref f)=ak/\uf K (.ref f)=ak:=by
 obtain⟨d,F,B,k⟩:=b.2.2.get ps h;exact⟨d,F,B,b.1,b.2.1,k⟩
structure Eb(K:Fg)(x:Str)(c:bw):Prop where
 b:qw K ju x=aj (aj (.ref c))
 x:yg K c [.type "ValueError",.type "Exception",.type "BaseException",.type "object"] "ValueError.__new__"=ak
 cs:(zq K c).isSome=ak
 ty:a1V K (.ref c)=aj (.type "type")
 be:a2g K (.ref c) (.type "BaseException")=aj ak
theorem Eb.gt{K:Fg}{h:jj}(e:Eb K x c)(XK:K.In h)(GG:h.Ns ju mg):ExT K mg x c:=⟨yu XK GG e.b,e.x,e.cs,e.ty,e.be⟩
theorem all_mk{l:PySem.W.OpenLaw}{w:jf}{K:Fg}{h:jj}{fa:bw}(XK:K.In h)(GG:h.Ns ju mg)(hfa:mg "law"=aj (.ref fa))
  (xP:Fb K "_wall" akZ ay8)
  (fJ:Fb K "is_whole" a7H aiT)
  (nY:Fb K "is_pair" aaY anD)
  (jF:Fb K "is_amount" a4A ag7)
  (nZ:Fb K "is_plan" aaZ anE)
  (gW:Fb K "need_plan" a4B ag8)
  (sH:Fb K "is_bin" afG asR)
  (fK:Fb K "need_lot" a7I aiU)
  (dR:Fb K "need_bin" a7J aiV)
  (d9:Fb K "need_amount" yS a9J)
  (oU:Fb K "change" afH asS)
  (lJ:Fb K "in_order" a7K aiW)
  (bF:qg K (.ref bI) "__init__"=aj (aj (.ref fM)))
  (fO:a1T K (.ref fM)=ak)
  (j9:K.lookup fM=aj ⟨agK,agL,.func (ql "__init__" "Shelves.__init__" (cZ dB) (bT dB) (aV dB) (.ref yD) agM agN agO agP yE agQ),agR⟩)
  (dD:a1m K yE "Shelves.__init__"=ak)
  (fP:uf K (.ref fM)=ak)
  (fQ:K.lookup yD=aj ⟨agS,agT,.seq #[.int 1000 yF] agU,agV⟩)
  (lX:Mb K bI "filled" "Shelves.filled" rK a3I)
  (iM:Mb K bI "need_room" "Shelves.need_room" nJ yG)
  (qZ:Mb K bI "put" "Shelves.put" yU a9K)
  (lY:Mb K bI "amount" "Shelves.amount" rM a3J)
  (iB:Mb K bI "need_there" "Shelves.need_there" mL wW)
  (pD:Mb K bI "take" "Shelves.take" vV a8K)
  (nA:Mb K bI "shift" "Shelves.shift" uH a5A)
  (pF:Mb K bI "held" "Shelves.held" vW a8L)
  (lZ:Mb K bI "places" "Shelves.places" rN a3K)
  (nC:Mb K bI "lying" "Shelves.lying" uI a5B)
  (dF:Fb K "_law_cell_at" vX a8M)
  (jG:Fb K "_law_plan" a4C ag9)
  (jH:Fb K "_law_told" a4D agA)
  (lU:Fb K "_law_due" a7L aiX)
  (a7R:qw K ju "law"=aj (aj (.ref asT)))
  (asU:K.lookup asT=aj ⟨aNM,aNN,.func (ql "law" "law" (cZ afI) (bT afI) (aV afI) .none aNO aNP aNQ aNR aF7 aNS),aNT⟩)
  (afT:a1m K aF7 "law"=ak)
  (asV:uf K (.ref asT)=ak)
  (zZ:qw K ju "Shelves"=aj (aj (.ref bI)))
  (a00:a1p K bI Str.empty=ak)
  (a01:a2b K bI=ak)
  (a02:PySem.W.plainOver K bI=ak)
  (a03:qg K (.ref bI) "__setattr__"=aj (aj (.builtin "object.__setattr__")))
  (a04:PySem.W.makesIn K bI=ak)
  (a05:uf K (.ref bI)=ak)
  (jW:qg K (.ref bI) "layout"=aj bh)
  (nD:qg K (.ref bI) "room"=aj bh)
  (jX:qg K (.ref bI) "stacks"=aj bh)
  (nT:Eb K "DepotError" adD)
  (wQ:Eb K "NoPlan" asW)
  (a1H:Eb K "NoBin" ay9)
  (a1I:Eb K "NoLot" ayA)
  (oZ:Eb K "NoAmount" aiY)
  (wR:Eb K "NoRoom" asY)
  (mW:Eb K "TooLittle" agB)
  (iU:qw K ju "MOST_AISLES"=aj (aj (.int 26 a9L)))
  (iV:qw K ju "MOST_PLACES"=aj (aj (.int 99 a9M)))
  (iW:qw K ju "MOST_AMOUNT"=aj (aj (.int 1000000 a9N)))
  (p8:qw K ju "MOST_GAP"=aj (aj (.int 20 aiZ)))
  (fC:qw K ju "MOST_LOTS"=aj (aj (.int 1000 agC)))
  (aj0:qw K ju "bool"=aj bh)
  (aj1:qw K ju "dict"=aj bh)
  (asZ:qw K ju "int"=aj bh)
  (u9:qw K ju "isinstance"=aj bh)
  (at4:qw K ju "len"=aj bh)
  (aj2:qw K ju "list"=aj bh)
  (adE:qw K ju "range"=aj bh)
  (a8N:qw K ju "sorted"=aj bh)
  (at5:qw K ju "sum"=aj bh)
  (adF:qw K ju "tuple"=aj bh) :
  ∃fd:kh,(∀(s:dh)(v:aq),BindsTo s fd ⟨[v],[]⟩ [("_law_script",v)])/\∀base:jj,K.In base->base.Ns ju mg->cC ao l.prog w K mg base (jZ l.prog w) 9 fa fd ["_law_script"] (alL K):=by
 have e:=hfa.symm.trans (yu XK GG a7R);cases e;obtain⟨a5V,ayB⟩:=xP.get XK GG ["k"] (len1 λ_ _ _ _ _ _ _=>rfl);obtain⟨tO,aj3⟩:=fJ.get XK GG ["thing","least","most"] (aF4 λ_ _ _ _ _ _ _ _ _=>rfl);obtain⟨xK,anF⟩:=nY.get XK GG ["thing","aisles","first","last"] (aK2 λ_ _ _ _ _ _ _ _ _ _=>rfl);obtain⟨pW,agD⟩:=jF.get XK GG ["thing"] (len1 λ_ _ _ _ _ _ _=>rfl);obtain⟨xM,anG⟩:=nZ.get XK GG ["thing"] (len1 λ_ _ _ _ _ _ _=>rfl);obtain⟨pX,agE⟩:=gW.get XK GG ["plan"] (len1 λ_ _ _ _ _ _ _=>rfl);obtain⟨a0V,at6⟩:=sH.get XK GG ["plan","thing"] (len2 λ_ _ _ _ _ _ _ _=>rfl);obtain⟨tQ,aj4⟩:=fK.get XK GG ["thing","lots"] (len2 λ_ _ _ _ _ _ _ _=>rfl);obtain⟨tR,aj5⟩:=dR.get XK GG ["plan","thing"] (len2 λ_ _ _ _ _ _ _ _=>rfl);obtain⟨m8,a9O⟩:=d9.get XK GG ["thing"] (len1 λ_ _ _ _ _ _ _=>rfl);obtain⟨a0W,at7⟩:=oU.get XK GG ["stacks","spot","lot","more"] (aK2 λ_ _ _ _ _ _ _ _ _ _=>rfl);obtain⟨tU,aj6⟩:=lJ.get XK GG ["stacks"] (len1 λ_ _ _ _ _ _ _=>rfl);obtain⟨eG,lK,lM,eF,a3L,a3M⟩:=lX.get ["self","spot"] λ_ _ _ _ _ _ us hl=>aF5 hl λ_ _=>rfl;obtain⟨cW,iJ,iK,cV,yH,yI⟩:=iM.get ["self","spot","amount"] λ_ _ _ _ _ _ us hl=>aK3 hl λ_ _ _=>rfl;obtain⟨iT,qX,qY,iR,a9P,a9Q⟩:=qZ.get ["self","lot","spot","amount"] λ_ _ _ _ _ _ us hl=>aF6 hl λ_ _ _ _=>rfl;obtain⟨eU,lO,lQ,eO,a3N,a3O⟩:=lY.get ["self","lot","spot"] λ_ _ _ _ _ _ us hl=>aK3 hl λ_ _ _=>rfl;obtain⟨cM,gY,gZ,cL,wX,wY⟩:=iB.get ["self","lot","spot","amount"] λ_ _ _ _ _ _ us hl=>aF6 hl λ_ _ _ _=>rfl;obtain⟨gP,oW,oX,gO,a8O,a8P⟩:=pD.get ["self","lot","spot","amount"] λ_ _ _ _ _ _ us hl=>aF6 hl λ_ _ _ _=>rfl;obtain⟨fV,n6,uN,fU,a5C,a5D⟩:=nA.get ["self","lot","one","other","amount"] λ_ _ _ _ _ _ us hl=>aNL hl λ_ _ _ _ _=>rfl;obtain⟨gR,oY,jT,gQ,a8Q,a8R⟩:=pF.get ["self","spot"] λ_ _ _ _ _ _ us hl=>aF5 hl λ_ _=>rfl;obtain⟨eX,lR,iG,eV,a3P,a3Q⟩:=lZ.get ["self","lot"] λ_ _ _ _ _ _ us hl=>aF5 hl λ_ _=>rfl;obtain⟨fX,n8,j4,fW,a5E,a5F⟩:=nC.get ["self"] λ_ _ _ _ _ _ us hl=>aNK hl λ_=>rfl;obtain⟨jR,a8S⟩:=dF.get XK GG ["_law_script","_law_k"] (len2 λ_ _ _ _ _ _ _ _=>rfl);obtain⟨pY,agF⟩:=jG.get XK GG ["_law_script","_law_k"] (len2 λ_ _ _ _ _ _ _ _=>rfl);obtain⟨pZ,agG⟩:=jH.get XK GG ["_law_shelves","_law_spots","_law_lots"] (aF4 λ_ _ _ _ _ _ _ _ _=>rfl);obtain⟨tV,aj7⟩:=lU.get XK GG ["_law_model","_law_spots","_law_lots"] (aF4 λ_ _ _ _ _ _ _ _ _=>rfl);have Z:=λ{x:Str}(h:qw K ju x=aj bh)=>PySem.W.mg_none_of XK GG h;have T:Txt K mg ⟨ay8,a5V,aiT,tO,anD,xK,ag7,pW,anE,xM,ag8,pX,asR,a0V,aiU,tQ,aiV,tR,a9J,m8,asS,a0W,aiW,tU,fM,_,a3I,eG,yG,cW,a9K,iT,a3J,eU,wW,cM,a8K,gP,a5A,fV,a8L,gR,a3K,eX,a5B,fX,a8M,jR,ag9,pY,agA,pZ,aiX,tV,asT,_,adD,asW,ay9,ayA,aiY,asY,agB,bI⟩:=⟨ayB,aj3,anF,agD,anG,agE,at6,aj4,aj5,a9O,at7,aj6,ahD (st:=dB) j9 dD fP,awV (ps:=["self","plan","room"]) fQ (λus hl=>match us,hl with|[_,_,_],_=>⟨_,rfl,rfl,rfl⟩),⟨bF,fO,fP⟩,⟨yF,awW (ps:=["self","plan","room"]) fQ (λus hl=>match us,hl with|[_,_],_=>⟨_,rfl,rfl,rfl⟩)⟩,lK,lM,⟨eF,a3L,a3M⟩,iJ,iK,⟨cV,yH,yI⟩,qX,qY,⟨iR,a9P,a9Q⟩,lO,lQ,⟨eO,a3N,a3O⟩,gY,gZ,⟨cL,wX,wY⟩,oW,oX,⟨gO,a8O,a8P⟩,n6,uN,⟨fU,a5C,a5D⟩,oY,jT,⟨gQ,a8Q,a8R⟩,lR,iG,⟨eV,a3P,a3Q⟩,n8,j4,⟨fW,a5E,a5F⟩,a8S,agF,agG,aj7,⟨ahD (st:=afI) asU afT asV,akO (ps:=["_law_script"]) (λus hl=>match us,hl with|[_],_=>rfl),yu XK GG a7R⟩,⟨a00,a01,a02,a03⟩,⟨a04,bF,fO,a05⟩,yu XK GG zZ,jW,nD,jX,nT.gt XK GG,wQ.gt XK GG,a1H.gt XK GG,a1I.gt XK GG,oZ.gt XK GG,wR.gt XK GG,mW.gt XK GG,⟨a9L,yu XK GG iU⟩,⟨a9M,yu XK GG iV⟩,⟨a9N,yu XK GG iW⟩,⟨aiZ,yu XK GG p8⟩,⟨agC,yu XK GG fC⟩,Z aj0,Z aj1,Z asZ,Z u9,Z at4,Z aj2,Z adE,Z a8N,Z at5,Z adF⟩;exact⟨_,λs v=>.of_eq rfl,λbase _ _=>(aF3 T).imp (ay7 T)⟩
theorem walk{l:PySem.W.OpenLaw}{d:DefRec}{K:Params->iw}(hn:l.most=aj 63)(hdf:d.params.defaults=[])
  (hY:∀(w:jf)(h:jj),YP w h->(K w.params).In h)
  (F:∀(w:jf)(mg:Str->Option aq)(fa:bw)(h:jj),(K w.params).In h->h.Ns ju mg->mg d.name=aj (.ref fa) ->
   ∃fd:kh,(∀(s:dh)(u:aq),BindsTo s fd ⟨[u],[]⟩ [("_law_script",u)])/\∀base:jj,(K w.params).In base->base.Ns ju mg->cC ao l.prog w (K w.params) mg base (jZ l.prog w) 9 fa fd ["_law_script"] (alL (K w.params))) :
  PySem.W.WalkO q loose XP YP l.row.toRowW d [] (λf vs=>PySem.call f vs) :=
 L2.auI (n:=63) (k:=9) (x:="_law_script") (CX:=λw=>jZ l.prog w) (sp:=λw=>alL (K w.params)) hn (by decide) hdf ⟨λ_=>rfl,by decide,by decide⟩ hY F (λ_ _ a ns hl _ hS=>⟨a,ns,rfl,hS,hl,λ_=>rfl⟩) (by rintro _ _ _ _ _ ⟨_,_,_,_,_,_,_,_,_,_,_,_,z⟩;exact z)
end Law
open PySem PySem.W PyProof.Rows
set_option tactic.hygienic true in
theorem PySem.Challenge.cw_depot_k25_what_is_told_is_ones_own_holds : PySem.Challenge.rw_depot_k25_what_is_told_is_ones_own.Holds := by
 w_on;refine PySem.W.holds_law Law.frW λsaid=>?_;o_head (PySem.W.kHook Law.frK.heap_1 Law.frA Law.frE)
 case hl=>exact Law.frL
 case hw=>w_witness2
 k_fill
 refine Law.walk (l:=PySem.Challenge.rw_depot_k25_what_is_told_is_ones_own) rfl rfl (λw h Y=>PySem.W.kIn_of Y) ?F
 case F =>
  intro w mg fa h KX G hmg;refine' Law.all_mk KX G hmg ?xP ?fJ ?nY ?jF ?nZ ?gW ?sH ?fK ?dR ?d9 ?oU ?lJ ?bF ?fO ?j9 ?dD ?fP ?fQ ?lX ?iM ?qZ ?lY ?iB ?pD ?nA ?pF ?lZ ?nC ?dF ?jG ?jH ?lU ?a7R ?asU ?afT ?asV ?zZ ?a00 ?a01 ?a02 ?a03 ?a04 ?a05 ?jW ?nD ?jX ?nT ?wQ ?a1H ?a1I ?oZ ?wR ?mW ?iU ?iV ?iW ?p8 ?fC ?aj0 ?aj1 ?asZ ?u9 ?at4 ?aj2 ?adE ?a8N ?at5 ?adF
  case zZ=>k_is
  case xP|fJ|nY|jF|nZ|gW|sH|fK|dR|d9|oU|lJ=>exact⟨by k_is,_,_,_,_,_,_,_,_,_,by k_is,by k_is,by k_is⟩
  case nT|wQ|a1H|a1I|oZ|wR|mW=>exact⟨by k_is,by k_exc,by kernel_rfl,by k_is,by k_is⟩
  case lX|iM|qZ|lY|iB|pD|nA|pF|lZ|nC=>exact⟨by k_is,by k_is,_,_,_,_,_,_,_,_,_,by k_is,by k_is,by k_is⟩
  case dF|jG|jH|lU=>exact⟨by k_is,_,_,_,_,_,_,_,_,_,by k_is,by k_is,by k_is⟩
  case bF|fO|j9|dD|fP|fQ|a7R|asU|afT|asV|a00|a01|a02|a03|a04|a05|jW|nD|jX|iU|iV|iW|p8|fC|aj0|aj1|asZ|u9|at4|aj2|adE|a8N|at5|adF=>k_is
