import PyProof.Rows.All
import Wide.All
import OpenK.KLine
import OpenK.KOwn
import Wide.FinOn
import Lean
import PyProof.EqAt
import PyProof.EqKinds
import PyProof.TupleCall
import KE.KMinKey
import KE.KSortTup
import KE.KRevSl
import KE.KStateDown
import PyProof.Rows.Range3
import KE.KDictOf
import PyProof.AttrMissSeq
import KE.KRevIter
import KE.KItemsList
import KE.KPairComp
import KE.KEqDict
import KE.KDictSum
import KE.RegKIsAll
import KE.KNest
import KE.KClos
import PyProof.Draws
import PyProof.EnumMake
import KE.KLam
import PyProof.AutoListH
import KE.KDictLaws
import PyProof.StrLawsTight
import PyProof.ListRange
import PyProof.RulesAssignMore
import KE.KSortKey
import KE.KSortAsk
import PyProof.ListMulRoad
import PyProof.RangeFor
import PyProof.CollectIter
import PySem.Challenge.RW_depot_k54_whole_shares
set_option Elab.async false
set_option linter.all false
set_option maxRecDepth 100000
set_option maxHeartbeats 4000000
open PySem renaming wpAny_bind->aj,wpAny_pure->bh
open Bool renaming and_eq_true->ak,not_eq_true'->dg,false_eq_true->fj,false_ne_true->jr,or_eq_true->vh,not_true->zy,false_xor->a0A
open PySem.Heap renaming get?_push_of_some->ao,lt_size->cg,get?_push_size->dw,SameBut->nu,get?_update_other->ou,size_push->vp,get?_update_self->yp,MadeExcOf->a0z,ExtBut->a0D
open List renaming size_toArray->aq,length_map->bx,getElem?_eq_some_iff->cj,range->dh,getElem?_eq_getElem->dj,all_eq_true->gj,replicate->gq,getElem?_map->gw,mem_cons_of_mem->iu,mem_of_getElem?->iw,map_append->iy,getD->iz,mem_cons->jc,mem_append_right->jf,lookup_cons->jg,mem_range->ji,mem_cons_self->jj,map_cons->jm,mem_singleton->jt,pairwise_append->jw,append_assoc->jz,mem_map->kh,getElem?_set_ne->kj,length_append->mj,getElem?_append_right->nq,nodup_cons->oh,mem_append->qe,length_cons->qg,pairwise_iff_getElem->qw,length_take->qx,all_cons->qz,sum_cons->rm,replicate_succ->tu,map_map->ud,take_append_drop->uf,getElem?_append_left->ug,drop_eq_getElem_cons->uh,append_nil->um,take_length->uw,ext_getElem->ux,getElem_mem->uz,take_of_length_le->vd,filter_eq_nil_iff->vf,filter_append->vg,flatten_cons->vo,filter_cons->vq,cons_append->wg,filter_eq_self->wu,any_cons->wz,find?_cons->xr,forIn_cons->xu,sum_append->yd,take_succ->yu,getElem?_zipWith->yw,countP_le_length->yx,mem_append_left->zc,not_mem_nil->zj,mem_iff_getElem->zp,countP_cons->zu,filterMap_cons->a01,mem_filterMap->a0a,getElem?_take_of_lt->a0c,getElem?_set_self->a0h,map_drop->a0j,map_take->a0k,length_drop->a0l,mem_reverse->a0m,pairwise_reverse->a0n,mem_filter->a0q,of_mem_zip->a0r,map_nil->a0s,length_set->a0t,nil_append->a0u,map_set->a0w,filter_map->a0y
open Nat renaming le_refl->au,lt_of_lt_of_le->cu,ne_of_lt->gk,zero_le->je,zero_add->jk,lt_irrefl->jq,le_trans->ju,le_of_lt->jx,min_eq_left->qu,lt_of_le_of_ne->qy,lt_succ_of_lt->vm,add_sub_cancel'->wj,eq_zero_of_not_pos->yh,one_pos->yj,ne_of_gt->yq,le_of_eq->yt,le_of_not_lt->zf,sub_lt->zq,pos_of_ne_zero->a0d,le_of_lt_succ->a0f,sub_pos_of_lt->a0g,le_of_add_right_le->a0i
open PySem.W renaming Frag->bw,mg_none_of->jy,keepIn->mz,nsIn->qd,emptyDict->qm,kia_one->qp,findIn->su,fnOf->uo,excIn->uq,kitOne->ur,clsIn->xg,instObj->xq,codeIn->a0e,Hook->a0o,hideAll->a0p
open Option renaming some->ig,none->yg,isSome_iff_exists->a0b
open Array renaming toList_append->jd,length_toList->pq,getD->qb,size_map->qj,getElem?_eq_some_iff->zx,toList_reverse->a0v
open Int renaming le_trans->jo,le_refl->mq,le_of_lt->ni,toNat_natCast->nj,emod_lt_of_pos->yc,emod_nonneg->a08,add_zero->a0x
namespace Law
open PySem PySem.W PyProof.Rows
noncomputable def frT (n:Nat):Stmt:=PySem.Challenge.pw_depot_k54_whole_shares.main.body.getD n (.Pass ⟨0,0,0,0⟩)
noncomputable def frQ:Program:={ PySem.Challenge.pw_depot_k54_whole_shares with main:={ PySem.Challenge.pw_depot_k54_whole_shares.main with body:=[frT 1,frT 2,frT 3,frT 4,frT 5,frT 6,frT 8,frT 9,frT 10,frT 11,frT 12,frT 13,frT 14,frT 15,frT 16,frT 17,frT 18,frT 19] } }
theorem frB {p q:Program} {loose:List Str} {Xt:Shared->Bool} {α:Type} {Yf:Shared->α} {Ya:World->α} {N:Nat} {g0:Bool}
  (e:opening p=plainProg p.main.scope.names) (hN:Nat.ble 600 N=true) (f:∀ s,fenceModules? p s=some s)
  (h:∀ (w:World) (os:OsState),(topFrom treeTable p w N ⟨boot_heap w.params,#[],boot_drawn,boot_toks,os⟩).map (fun s=>(openSeen q loose (importedModules p.main.body) Xt g0 s,Yf s))=some (openGood q loose,Ya w)) :
  LeftO p q loose Xt Yf Ya N g0:=fun w=>by
 obtain ⟨⟨h1,gs,d,k,os⟩,e1,e'⟩:=Option.map_eq_some_iff.mp (boot_open e hN f w);obtain ⟨rfl,rfl,rfl,rfl⟩:h1=boot_heap w.params/\gs=#[]/\d=boot_drawn/\k=boot_toks:=by simpa using e'
 unfold openEnds;rw [e1];exact h w os
noncomputable abbrev frX:Shared->Bool:=fun s=>xlAt frQ [] s&&recOk (RowW.records (OpenRow.toRowW (OpenLaw.row PySem.Challenge.rw_depot_k54_whole_shares))) s
end Law
local macro_rules
 | `(tactic| o_head $H)=>`(tactic| refine PySem.W.holds_open (q:=Law.frQ) (loose:=[]) (Xt:=Law.frX) (XP:=PySem.W.XL Law.frQ []) (Yf:=a0o.obs $H) (Ya:=a0o.val $H)
     (YP:=a0o.says $H) (N:=1280) ?hl (a0o.of $H) (a0o.keeps $H) (fun s e=>PySem.W.xl_of s (Bool.and_eq_true_iff.mp e).1) PySem.W.XL.keeps (by rfl) (by rfl) (by rfl)
     (fun s e=>PySem.W.recFacts_of (Bool.and_eq_true_iff.mp e).2) (by rfl) (by first | assumption | decide +kernel) (by decide +kernel) ⟨rfl,rfl,rfl,rfl,rfl,by decide +kernel⟩ ?hw ?hc)
open PySem PySem.W in
theorem Law.frK (h0:∀ {α:Type} (Yf:Shared->α) (Ya:World->α),LeftO (OpenLaw.row PySem.Challenge.rw_depot_k54_whole_shares).prog Law.frQ [] Law.frX Yf Ya 1280)
  (h1:∀ YP d,WalkO Law.frQ [] (XL Law.frQ []) YP (OpenRow.toRowW (OpenLaw.row PySem.Challenge.rw_depot_k54_whole_shares)) d [] (fun f vs=>PySem.call f vs)):OpenLaw.Holds PySem.Challenge.rw_depot_k54_whole_shares:=by
 w_on;o_law;k_head
 case hl=>exact h0 _ _
 case hw=>w_witness2
 exact h1 _ _
noncomputable abbrev Law.frA:List Nat:=[2,3,6,15,18,19,20,23,24,25,27,28,30,31,32,34,35,37,38,39,41,42,44,45,46,49,50,51,53,54,56,57,58,60,61,63,64,65,67,68,70,71,72,74,75,77,78,79,81,82,84,85,86,88,89,91,92,93,95,96,98,99,100,102,103,105,106,107,109,110,112,113,114,117,118,119,121,122,124,125,126,128,129,131,132]
theorem Law.frE:∀ P,Law.frA=(Law.frK.heap_39 P).map (·.1):=fun _=>by kernel_rfl
open PySem PySem.W in
theorem Law.frL:LeftO (OpenLaw.row PySem.Challenge.rw_depot_k54_whole_shares).prog Law.frQ [] Law.frX (Hook.obs (kHook Law.frK.heap_39 Law.frA Law.frE)) (Hook.val (kHook Law.frK.heap_39 Law.frA Law.frE)) 1280 :=
 Law.frB (by kernel_rfl) (by kernel_rfl) (fun s=>by kernel_rfl) (fun w os=>by kernel_rfl)
namespace L2
open PySem PySem.Spec PyProof.Rows
variable {h:Heap}{vs:Array Value}{Q:Unit->Shared->Prop}{us:List Value}{it l:Addr}
section
structure Tr (B:Heap) (x:Addr) (C fl:Value) (h:Heap):Prop where
 ex:∃ (o:Obj) (vs:Array Value) (T:Addr) (oT:Obj) (ts:Array Value),h.get? x=some o/\o.cls=C/\o.data = .fields vs/\vs[1]?=some (.ref T)/\vs[2]?=some .none/\B.get? T=none/\T≠x/\h.get? T=some oT/\oT.data = .fields ts/\ts[3]?=some fl
structure aaP (B:Heap) (l:List Env) (x:Addr) (C fl:Value) (h:Heap):Prop where
 stays:B.StaysIn h
 new:B.get? x=none
 aD7:h.FunFrames B l
 tr:Tr B x C fl h
abbrev Fly (B:Heap) (l:List Env) (x:Addr) (C:Value) (h:Heap):Prop:=aaP B l x C .none h
variable {v:Value}
section
variable {M:Model} {A:Around} {E:Value->Shared->Prop} {s:Shared} {B:Heap} {l:List Env} {env:Env} {outer:List Env} {L x:Addr} {C fl:Value}
theorem jQ {a:Addr} {o:Obj} {i:Nat} (e:h.get? a=some o) (d:o.data = .fields vs) :
  (h.update a (Obj.mapFields (·.setIfInBounds i v))).get? a=some (Obj.mapFields (·.setIfInBounds i v) o)/\(Obj.mapFields (·.setIfInBounds i v) o).data = .fields (vs.setIfInBounds i v)/\(Obj.mapFields (·.setIfInBounds i v) o).cls=o.cls /\
  (∀ b,b≠a->(h.update a (Obj.mapFields (·.setIfInBounds i v))).get? b=h.get? b):=by
 have d':=Obj.data_mapFields d (·.setIfInBounds i v);exact ⟨yp _ e (Obj.isFreed_of_fields d'),d',Obj.cls_mapFields _ _,fun b hb=>ou _ _ (Ne.symm hb)⟩
theorem uJ {a b:Addr} {o u:Obj} (e:h.get? a=some o) (d:o.data = .fields vs) (e2:h.get? b=some u) (n:∀ ws,u.data ≠ .fields ws):b≠a:=fun q=>by
 subst q;rw [e] at e2;cases e2;exact n vs d
theorem acJ (f:aaP B l x C fl s.heap) (h:∀ h',Fly B l x C h'->s.heap.UpToSlots h'->Q () { s with heap:=h' }):wpAny M A (setFlight (.ref x) none) Q E s:=by
 obtain ⟨st,nw,fu,⟨o,vs,T,oT,ts,e1,e2,e3,e4,e5,e6,e7,e8,e9,e10⟩⟩:=f;unfold setFlight;refine aj (wpAny_field e1 e3 e4 ?_);rw [if_pos (by simp)];have l3:3 < ts.size:=(zx.mp e10).1;obtain ⟨u1,u2,u3,u4⟩:=jQ (i:=3) (v:=(none:Option Addr).elim Value.none fun f=>rawInt f) e8 e9;refine wpAny_setField e8 e9 l3 (h _ ⟨fun b u q=>?_,nw,fu.of_keeps fun b u q n=>⟨u,(u4 b (uJ e8 e9 q n)).trans q,rfl⟩,⟨o,vs,T,_,_,(u4 x (Ne.symm e7)).trans e1,e2,e3,e4,e5,e6,e7,u1,u2,?_⟩⟩ fun b u q n=>⟨u.slots,(u4 b (uJ e8 e9 q n)).trans q⟩)
 ·exact (u4 b fun z=>by subst z;rw [e6] at q;cases q).trans (st b u q)
 ·simp [l3]
theorem a8D {head:Value} {hadNext:Bool} {o:Obj} (hfr:A.frames=some (env :: outer)) (hf:env.frame=some L) (st:B.StaysIn s.heap) (nw:B.get? x=none) (fu:s.heap.FunFrames B (env :: outer)) (e1:s.heap.get? x=some o) (e2:o.cls=C) (e3:o.data = .fields vs) (e4:1 < vs.size) (e5:vs[2]?=some .none)
  (h:∀ h',aaP B (env :: outer) x C (rawInt L) h'->s.heap.UpToSlots h'->Q () { s with heap:=h' }) :
  wpAny M A (do let a ← frameOf env;let pl ← entryPlaceOf L hadNext;let b ← EntryCells.newEntry head a .none (rawInt L) .none pl;setField (.ref x) 1 b) Q E s:=by
 have nf:x ∉ (env :: outer).filterMap (·.frame):=fun m=>by
  obtain ⟨_,u,hu,hn⟩:=fu.mem m;rw [e1] at hu;cases hu;exact hn vs e3
 refine aj (wpAny_frameOf_fun hfr fu hf fun k so=>aj (wpAny_entryPlaceOf fun pl hpl=>?_));unfold EntryCells.newEntry newFields;refine aj (wpAny_newObj_type ?_ (hpl.sizeOk5 _ _ _ _ _));have k1:k.get? x=some o:=(so.2.1 x nf).trans e1;have tne:k.objs.size≠x:=fun z=>absurd (cg k1) (by rw [z];exact jq _);have kB:∀ b u,B.get? b=some u->k.get? b=some u:=fun b u q=>(so.2.1 b fun m=>by rw [(fu.mem m).1] at q;cases q).trans (st b u q);generalize hT:({ cls := .type "traceback",dict:=none,data := .fields ([head,.ref L,.none,rawInt L,.none]++(if pl.isEmpty then gq 6 Value.none else pl)).toArray }:Obj)=oT;have p1:(k.push oT).get? x=some o:=ao _ k1;obtain ⟨u1,u2,u3,u4⟩:=jQ (i:=1) (v := .ref k.objs.size) p1 e3;have keep:∀ b u,b≠x->k.get? b=some u->((k.push oT).update x (Obj.mapFields (·.setIfInBounds 1 (.ref k.objs.size)))).get? b=some u:=fun b u n q=>(u4 b n).trans (ao _ q)
 have pT:(k.push oT).get? k.objs.size=some oT:=by
  subst hT;exact dw k rfl
 refine wpAny_setField p1 e3 e4 (h _ ⟨fun b u q=>keep b u (fun z=>by subst z;rw [nw] at q;cases q) (kB b u q),nw,fu.of_keeps fun b u q n=>?_,⟨_,_,k.objs.size,oT,_,u1,u3.trans e2,u2,?_,?_,?_,tne,(u4 _ tne).trans pT,by rw [← hT],?_⟩⟩ fun b u q n=>?_)
 ·obtain ⟨sl,z⟩:=so.2.2 b u q;exact ⟨_,keep b _ (uJ e1 e3 q n) z,rfl⟩
 ·simp [e4]
 ·rw [Array.getElem?_setIfInBounds_ne (by decide)];exact e5
 ·cases q:B.get? k.objs.size with
  | none=>rfl
  | some u=>exact absurd (cg (kB _ u q)) (jq _)
 ·first | (simp;done) | (rcases hpl with rfl | ⟨_,_,_,_,_,_,_,rfl⟩ <;> simp)
 ·obtain ⟨sl,z⟩:=so.2.2 b u q;exact ⟨sl,keep b _ (uJ e1 e3 q n) z⟩
theorem am0 (hfr:A.frames=some (env :: outer)) (hf:env.frame=some L) (f:Fly B (env :: outer) x C s.heap) (h:∀ h',aaP B (env :: outer) x C (rawInt L) h'->s.heap.UpToSlots h'->Q () { s with heap:=h' }):wpAny M A (noteFrame (.ref x) env) Q E s:=by
 obtain ⟨st,nw,fu,⟨o,vs,T,oT,ts,e1,e2,e3,e4,e5,e6,e7,e8,e9,e10⟩⟩:=f;unfold noteFrame;simp only [hf];refine aj (wpAny_field e1 e3 e4 ?_);rw [if_pos (by simp)];refine aj (wpAny_field e8 e9 e10 ?_);rw [if_neg (by simp [rawInt])];have l3:3 < ts.size:=(zx.mp e10).1;obtain ⟨u1,u2,u3,u4⟩:=jQ (i:=3) (v := .none) e8 e9;refine aj (wpAny_setField e8 e9 l3 ?_);refine a8D hfr hf (fun b u q=>(u4 b fun z=>by subst z;rw [e6] at q;cases q).trans (st b u q)) nw (fu.of_keeps fun b u q n=>⟨u,(u4 b (uJ e8 e9 q n)).trans q,rfl⟩) ((u4 x (Ne.symm e7)).trans e1) e2 e3 (zx.mp e4).1 e5 fun h' f' up=>h h' f' ?_;exact fun b u q n=>up b u ((u4 b (uJ e8 e9 q n)).trans q) n
theorem aaP.tail (f:aaP B (env :: outer) x C fl h):aaP B outer x C fl h:=by
 obtain ⟨st,nw,⟨_,_,fu⟩,tr⟩:=f;exact ⟨st,nw,fu,tr⟩
theorem agM (hfr:A.frames=some (env :: outer)) (hf:env.frame=some L) (f:Fly B (env :: outer) x C s.heap) (h:∀ h',Fly B outer x C h'->s.heap.UpToSlots h'->Q () { s with heap:=h' }):wpAny M A (leaving env (.ref x)) Q E s:=by
 unfold leaving;refine aj (am0 hfr hf f fun h1 f1 up1=>acJ f1 fun h2 f2 up2=>?_);exact h h2 f2.tail (up1.trans up2)
theorem aaQ {h0:Heap} (hfr:A.frames=some (env :: outer)) (hf:env.frame=some L) (st:B.StaysIn h0) (fu:h0.FunFrames B (env :: outer)) (hm:a0z h0 s.heap x C us) (h:∀ h',Fly B outer x C h'->s.heap.UpToSlots h'->Q () { s with heap:=h' }):wpAny M A (leaving env (.ref x)) Q E s:=by
 obtain ⟨t,e1,_,_⟩:=hm.there;unfold leaving noteFrame;simp only [hf];refine aj (aj (wpAny_field (vs:=#[.ref t,.none,.none,.none,.bool false,.none]) (i:=1) e1 rfl rfl ?_));rw [if_neg (by simp)]
 have nw:B.get? x=none:=by
  cases q:B.get? x with
  | none=>rfl
  | some u=>have:=st x u q;rw [hm.new] at this;cases this
 refine a8D hfr hf (fun b u q=>hm.keeps b u (st b u q)) nw (fu.of_keeps fun b u q _=>⟨u,hm.keeps b u q,rfl⟩) e1 rfl rfl (by simp) rfl fun h1 f1 up1=>acJ f1 fun h2 f2 up2=>?_;exact h h2 f2.tail (up1.trans up2)
end
def a3C (A:Around) (h:Heap):Prop:=A.handled=none∨∃ x o vs,A.handled=some (.ref x)/\h.get? x=some o/\o.data = .fields vs/\vs[2]?=some .none
theorem a3D:entryFor table "proto.unchain" = some Builtin.«proto.unchain» := entryFor_of_fast (by kernel_rfl)
variable {Q:Option Value->Shared->Prop}
section
variable {prog:Program} {w:World} {A:Around} {E:Value->Shared->Prop} {s:Shared}
theorem aeW {α:Type} {Q:α->Shared->Prop} {a:Addr} {oa:Obj} {ws:Array Value} (hq:a3C A s.heap) (ea:s.heap.get? a=some oa) (da:oa.data = .fields ws) (la:2 < ws.size) (na:∀ x,A.handled=some (.ref x)->x≠a)
  (h:∀ h',(∀ b,b≠a->h'.get? b=s.heap.get? b)->(∃ o,h'.get? a=some o/\o.cls=oa.cls)->E (.ref a) { s with heap:=h' }):wpAny (model prog w) A (raiseNew (.ref a):Sem α) Q E s:=by
 unfold raiseNew;refine aj (wpAny_handled ?_);rcases hq with hn | ⟨x,o,vs,hx,ex,dx,vx⟩
 ·rw [hn];exact aj (bh (wpAny_throw (h s.heap (fun _ _=>rfl) ⟨oa,ea,rfl⟩)))
 ·rw [hx];have ne:=na x hx;show wpAny (model prog w) _ (if ((Value.ref x) != (Value.ref a))=true then _ else _) _ _ _;rw [if_pos (by simpa using ne)];refine aj (wpAny_holding (wpAny_runValue (codeAny_builtin a3D ?_)));show wpAny (model prog w) _ (field (.ref x) 2 >>= _) _ _ _;refine aj (wpAny_field ex dx vx ?_);show wpAny (model prog w) _ (if ((Value.none:Value) == Value.none)=true then _ else _) _ _ _;rw [if_pos (by decide)];refine aj (bh (bh ?_));obtain ⟨u1,u2,u3,u4⟩:=jQ (i:=2) (v := .ref x) ea da;show wpAny (model prog w) _ (setField (.ref a) 2 (.ref x) >>= _) _ _ _;exact aj (wpAny_setField ea da la (wpAny_throw (h _ u4 ⟨_,u1,u3⟩)))
theorem lN {α:Type} {Q:α->Shared->Prop} (hq:a3C A s.heap) (h:∀ a h',(∀ b o,s.heap.get? b=some o->h'.get? b=some o)->(∃ o,h'.get? a=some o/\o.cls = .type "StopIteration")->E (.ref a) { s with heap:=h' }) :
  wpAny (model prog w) A (newExc (.type "StopIteration") [] >>= fun e=>(raiseNew e:Sem α)) Q E s:=by
 refine aj ?_;unfold newExc newTuple;refine aj (wpAny_newObj_type (aj (wpAny_of_eq (a:=Value.none) (by simp only [firstArgMember];rfl) (wpAny_newObj_type ?_ (by size_fits)))) (by size_fits));generalize hh:s.heap.push { cls := .type "tuple",data := .seq ([]:List Value).toArray }=h1;generalize ho:({ cls := .type "StopIteration",data := .fields (#[.ref s.heap.objs.size,.none,.none,.none,.bool false,.none]++ownMembersOf (.type "StopIteration") []) }:Obj)=o1;have k1:∀ b o,s.heap.get? b=some o->(h1.push o1).get? b=some o:=fun b o e=>ao _ (hh ▸ ao _ e)
 have ea:(h1.push o1).get? h1.objs.size=some o1:=by
  subst ho;exact dw h1 rfl
 have old:∀ b o,s.heap.get? b=some o->b≠h1.objs.size:=fun b o e z=>by
  have l1:b < h1.objs.size:=by
   rw [← hh,vp];exact vm (cg e)
  exact absurd l1 (by rw [z];exact jq _)
 refine aeW (ws:=#[.ref s.heap.objs.size,.none,.none,.none,.bool false,.none]++ownMembersOf (.type "StopIteration") []) ?_ ea (by rw [← ho]) (by simp [ownMembersOf]) (fun x hx=>?_) fun h' k c=>h h1.objs.size h' (fun b o e=>(k b (old b o e)).trans (k1 b o e)) ?_
 ·rcases hq with z | ⟨x,o,vs,a1,a2,a3⟩
  ·exact .inl z
  ·exact .inr ⟨x,o,vs,a1,k1 _ _ a2,a3⟩
 ·rcases hq with z | ⟨x',o,vs,a1,a2,a3⟩
  ·rw [z] at hx;cases hx
  ·rw [a1] at hx;cases hx;exact old _ _ a2
 ·obtain ⟨o,e,c⟩:=c;exact ⟨o,e,by rw [c,← ho]⟩
theorem oK {T id:String} {b:Builtin} (slot:Slot T (Str.ofString "__next__") id) (entry:entryFor table id=some b) (hT:s.TypeIs (.ref it) T) (args:argsOk id ⟨[.ref it],[]⟩)
  (hb:wpAny (model prog w) A.in1 (b ⟨[.ref it],[]⟩) (fun _ _=>False) (fun e s'=>∃ a o,e = .ref a/\s'.heap.get? a=some o/\o.cls = .type "StopIteration" /\ Q none s') s):wpAny (model prog w) A (pyNext (.ref it)) Q E s:=by
 unfold pyNext;refine aj (wpAny_attempt (wpAny_callSpecial?_slot hT slot (wpAny_call_entry slot hT entry (wpAny_mono hb (fun _ _ z=>z.elim) fun e s' z=>?_) args)));obtain ⟨a,o,rfl,e1,e2,q⟩:=z;exact aj (wpAny_isInstance (T := "StopIteration") (b:=true) ⟨o,e1,e2⟩ isSubtype_stop (bh q))
theorem a0C {o:Obj} {i:Nat} (hq:a3C A s.heap) (e:s.heap.get? it=some o) (d:o.data = .fields vs) (l:vs[2]?≠some .none):a3C A (s.heap.update it (Obj.mapFields (·.setIfInBounds i v))):=by
 rcases hq with z | ⟨x,ox,ws,a1,a2,a3,a4⟩
 ·exact .inl z
 ·refine .inr ⟨x,ox,ws,a1,?_,a3,a4⟩
  have ne:x≠it:=fun z=>by
   subst z;rw [e] at a2;cases a2;rw [d] at a3;cases a3;exact l a4
  exact ((jQ e d).2.2.2 x ne).trans a2
theorem aeX {i:Nat} {items:Array Value} (hq:a3C A s.heap) (hit:s.heap.IsListIter it l i) (hl:s.heap.IsList l items) (hx:items[i]?=none)
  (h:∀ h',a0D it s.heap h'->Q none { s with heap:=h' }):wpAny (model prog w) A (pyNext (.ref it)) Q E s:=by
 obtain ⟨o,e1,c1,d1⟩:=id hit;obtain ⟨ol,e2,_,nl,d2⟩:=hl;refine oK slot_listiter_next entry_listiter_next hit.typeIs (args_listiter_next _) ?_;show wpAny (model prog w) _ (field (.ref it) 0 >>= _) _ _ s;refine aj (wpAny_field e1 d1 (x := .ref l) rfl ?_);show wpAny (model prog w) _ (field (.ref it) 1 >>= _) _ _ s;refine aj (wpAny_field e1 d1 (x := .int i 0) rfl ?_);show wpAny (model prog w) _ (seqItems? (.ref l) >>= _) _ _ s;refine aj (wpAny_seqItems e2 d2 ?_);simp only [hx,nj];refine aj (wpAny_rule (aj (wpAny_setField e1 d1 (by simp) ?_)));refine lN (A:=A.in1) (a0C hq e1 d1 (by simp)) fun a h' k c=>?_;obtain ⟨oa,ea,ca⟩:=c;exact ⟨a,oa,rfl,ea,ca,h h' fun b ob n e=>k b ob (((jQ e1 d1).2.2.2 b n).trans e)⟩
theorem agN {i:Nat} {items:Array Value} (hq:a3C A s.heap) (hit:s.heap.IsTupleIter it l i) (hl:s.heap.IsTuple l items) (hx:items[i]?=none)
  (h:∀ h',a0D it s.heap h'->Q none { s with heap:=h' }):wpAny (model prog w) A (pyNext (.ref it)) Q E s:=by
 obtain ⟨o,e1,c1,d1⟩:=id hit;obtain ⟨ol,e2,_,nl,d2⟩:=hl;refine oK F.slot_tuple_iterator_next F.entry_tuple_iterator_next hit.typeIs (F.args_tuple_iterator_next_1 _) ?_;show wpAny (model prog w) _ (field (.ref it) 0 >>= _) _ _ s;refine aj (wpAny_field e1 d1 (x := .ref l) rfl ?_);show wpAny (model prog w) _ (field (.ref it) 1 >>= _) _ _ s;refine aj (wpAny_field e1 d1 (x := .int i 0) rfl ?_);show wpAny (model prog w) _ (seqItems? (.ref l) >>= _) _ _ s;refine aj (wpAny_seqItems e2 d2 ?_);simp only [hx,nj];refine aj (wpAny_rule (aj (wpAny_setField e1 d1 (by simp) ?_)));refine lN (A:=A.in1) (a0C hq e1 d1 (by simp)) fun a h' k c=>?_;obtain ⟨oa,ea,ca⟩:=c;exact ⟨a,oa,rfl,ea,ca,h h' fun b ob n e=>k b ob (((jQ e1 d1).2.2.2 b n).trans e)⟩
theorem agO {x left step:Int} (hq:a3C A s.heap) (hit:IsRangeIter s.heap it x left step) (hleft:left<=0)
  (h:∀ h',a0D it s.heap h'->Q none { s with heap:=h' }):wpAny (model prog w) A (pyNext (.ref it)) Q E s:=by
 refine oK F.slot_range_iterator_next F.entry_range_iterator_next ⟨_,hit,rfl⟩ (F.args_range_iterator_next_1 _) ?_;show wpAny (model prog w) _ (field (.ref it) 0 >>= _) _ _ s;refine aj (wpAny_field hit rfl (i:=0) rfl ?_);show wpAny (model prog w) _ (field (.ref it) 1 >>= _) _ _ s;refine aj (wpAny_field hit rfl (i:=1) rfl ?_);show wpAny (model prog w) _ (field (.ref it) 2 >>= _) _ _ s;refine aj (wpAny_field hit rfl (i:=2) rfl ?_);show wpAny (model prog w) _ (if left<=0 then _ else _) _ _ s;rw [if_pos hleft];refine aj (wpAny_rule (aj ?_));refine lN (A:=A.in1) hq fun a h' k c=>?_;obtain ⟨oa,ea,ca⟩:=c;exact ⟨a,oa,rfl,ea,ca,h h' fun b ob n e=>k b ob e⟩
theorem aeY {x:Str} {t:Tok} {i:Nat} (hq:a3C A s.heap) (hit:s.heap.IsStrIter it "str_ascii_iterator" x t i) (hx:x.cps[i]?=none)
  (h:∀ h',a0D it s.heap h'->Q none { s with heap:=h' }):wpAny (model prog w) A (pyNext (.ref it)) Q E s:=by
 obtain ⟨o,e1,c1,d1⟩:=id hit;refine oK F.slot_str_ascii_iterator_next F.entry_str_ascii_iterator_next hit.typeIs (F.args_str_ascii_iterator_next_1 _) ?_;show wpAny (model prog w) _ (field (.ref it) 0 >>= _) _ _ s;refine aj (wpAny_field e1 d1 (x := .str x t) rfl ?_);show wpAny (model prog w) _ (field (.ref it) 1 >>= _) _ _ s;refine aj (wpAny_field e1 d1 (x := .int i 0) rfl ?_);simp only [hx,nj];refine aj (wpAny_rule (aj (wpAny_setField e1 d1 (by simp) (aj (wpAny_letGo ?_)))));refine lN (A:=A.in1) (a0C hq e1 d1 (by simp)) fun a h' k c=>?_;obtain ⟨oa,ea,ca⟩:=c;exact ⟨a,oa,rfl,ea,ca,h h' fun b ob n e=>k b ob (((jQ e1 d1).2.2.2 b n).trans e)⟩
theorem aeZ {x:Str} {t:Tok} {i:Nat} (hq:a3C A s.heap) (hit:s.heap.IsStrIter it "str_iterator" x t i) (hx:x.cps[i]?=none)
  (h:∀ h',a0D it s.heap h'->Q none { s with heap:=h' }):wpAny (model prog w) A (pyNext (.ref it)) Q E s:=by
 obtain ⟨o,e1,c1,d1⟩:=id hit;refine oK F.slot_str_iterator_next F.entry_str_iterator_next hit.typeIs (F.args_str_iterator_next_1 _) ?_;show wpAny (model prog w) _ (field (.ref it) 0 >>= _) _ _ s;refine aj (wpAny_field e1 d1 (x := .str x t) rfl ?_);show wpAny (model prog w) _ (field (.ref it) 1 >>= _) _ _ s;refine aj (wpAny_field e1 d1 (x := .int i 0) rfl ?_);simp only [hx,nj];refine aj (wpAny_rule (aj (wpAny_setField e1 d1 (by simp) (aj (wpAny_letGo ?_)))));refine lN (A:=A.in1) (a0C hq e1 d1 (by simp)) fun a h' k c=>?_;obtain ⟨oa,ea,ca⟩:=c;exact ⟨a,oa,rfl,ea,ca,h h' fun b ob n e=>k b ob (((jQ e1 d1).2.2.2 b n).trans e)⟩
end
end
section
noncomputable abbrev Key:=Sum Int Str
noncomputable def acK:Key->Value->Bool
 | .inl k,v=>Value.isInt k v
 | .inr x,v=>Value.isStrOf x v
noncomputable def aD9 (w:World):Key->Int
 | .inl k=>hashInt k
 | .inr x=>hashStr w x
theorem cQ:∀ {k:Key} {v:Value},acK k v=true->(∃ i t,k=Sum.inl i/\v=Value.int i t)∨(∃ x t,k=Sum.inr x/\v=Value.str x t)
 | .inl i,v,h=>by
  obtain ⟨t,e⟩:=Value.isInt_shape (k:=i) (v:=v) h;exact .inl ⟨i,t,rfl,e⟩
 | .inr x,v,h=>by
  obtain ⟨t,e⟩:=Value.isStrOf_shape (x:=x) (v:=v) h;exact .inr ⟨x,t,rfl,e⟩
theorem af0 (i:Int) (t:Tok):acK (.inl i) (.int i t)=true:=by simp [acK,Value.isInt]
theorem arR (a b:Int):decide ((Sum.inl a:Key)=Sum.inl b)=(a == b):=by
 by_cases e:a=b
 ·subst e;simp
 ·have h:¬ (Sum.inl a:Key)=Sum.inl b:=fun q=>e (Sum.inl.inj q);rw [decide_eq_false h];exact (beq_eq_false_iff_ne.mpr e).symm
theorem arS (a b:Str):decide ((Sum.inr a:Key)=Sum.inr b)=decide (a=b):=by
 by_cases e:a=b
 ·subst e;simp
 ·have h:¬ (Sum.inr a:Key)=Sum.inr b:=fun q=>e (Sum.inr.inj q);rw [decide_eq_false h,decide_eq_false e]
theorem arT (a:Int) (b:Str):decide ((Sum.inl a:Key)=Sum.inr b)=false:=decide_eq_false (fun q=>nomatch q)
theorem arU (a:Str) (b:Int):decide ((Sum.inr a:Key)=Sum.inl b)=false:=decide_eq_false (fun q=>nomatch q)
noncomputable def bI (prog:Program) (w:World):PySem.KeyKind prog w Key where
 is:=acK
 hash:=aD9 w
 inj:=fun v a b ha hb=>by
  rcases cQ ha with ⟨i,t,rfl,rfl⟩ | ⟨x,t,rfl,rfl⟩
  ·rcases cQ hb with ⟨j,u,rfl,e⟩ | ⟨y,u,rfl,e⟩
   ·injection e with e1 _;rw [e1]
   ·exact nomatch e
  ·rcases cQ hb with ⟨j,u,rfl,e⟩ | ⟨y,u,rfl,e⟩
   ·exact nomatch e
   ·injection e with e1 _;rw [e1]
 byValue:=fun k v h=>by
  rcases cQ h with ⟨i,t,rfl,rfl⟩ | ⟨x,t,rfl,rfl⟩ <;> rfl
 pyHash:=fun hv h=>by
  rcases cQ hv with ⟨i,t,rfl,rfl⟩ | ⟨x,t,rfl,rfl⟩
  ·exact wpAny_pyHash_int h
  ·exact wpAny_pyHash_str h
 eqBool:=fun hu hv h=>by
  rcases cQ hu with ⟨i,t,rfl,rfl⟩ | ⟨x,t,rfl,rfl⟩
  ·rcases cQ hv with ⟨j,u,rfl,rfl⟩ | ⟨y,u,rfl,rfl⟩
   ·rw [arR] at h;exact wpAny_eqBool_int h
   ·rw [arT] at h;exact SeqAt.EqAt.int_str i t y u _ _ _ _ h
  ·rcases cQ hv with ⟨j,u,rfl,rfl⟩ | ⟨y,u,rfl,rfl⟩
   ·rw [arU] at h;exact SeqAt.EqAt.str_int x t j u _ _ _ _ h
   ·rw [arS] at h;exact wpAny_eqBool_str h
 «strs» := fun k x t v h=>by
  rcases cQ h with ⟨i,u,rfl,e⟩ | ⟨y,u,rfl,e⟩
  ·exact nomatch e
  ·injection e with e1 _;subst e1;cases v <;> rfl
theorem a8E (prog:Program) (w:World) (i:Int) (t:Tok):(bI prog w).is (.inl i) (.int i t)=true:=af0 i t
end
variable {P:Program}
section
inductive V where
 | non | bl (b:Bool) | int (i:Int) | str (x:Str) | byt (b:Array UInt8) | flt (b:UInt64) | ref (a:Addr) | ty (n:String)
 deriving DecidableEq
noncomputable def RelV:V->Value->Prop
 | .non,u=>u=Value.none
 | .bl b,u=>u=Value.bool b
 | .int i,u=>∃ t,u=Value.int i t
 | .str x,u=>∃ t,u=Value.str x t
 | .byt b,u=>∃ t,u=Value.bytes b t
 | .flt b,u=>∃ t,u=Value.float b t
 | .ref a,u=>u=Value.ref a
 | .ty n,u=>u=Value.type n
noncomputable abbrev Vals:List V->List Value->Prop:=Paired RelV
theorem Vals.length {xs:List V} {us:List Value} (r:Vals xs us):xs.length=us.length:=Paired.length r
theorem Vals.get:∀ {xs:List V} {us:List Value} {i:Nat} {x:V},Vals xs us->xs[i]?=some x->∃ u,us[i]?=some u/\RelV x u
 | _,_,_,_,.nil,e=>by simp at e
 | _,_,0,_,.cons r _,e=>by simp at e;subst e;exact ⟨_,rfl,r⟩
 | _,_,i+1,x,.cons _ t,e=>by
  obtain ⟨u,h1,h2⟩:=Vals.get (i:=i) (x:=x) t (by simpa using e);exact ⟨u,by simpa using h1,h2⟩
theorem Vals.set {x:V} {u:Value} (r:RelV x u):∀ {xs:List V} {us:List Value} (i:Nat),Vals xs us->Vals (xs.set i x) (us.set i u)
 | _,_,_,.nil => .nil
 | _,_,0,.cons _ t => .cons r t
 | _,_,i+1,.cons q t => .cons q (Vals.set r i t)
theorem Vals.append:∀ {xs ys:List V} {us ws:List Value},Vals xs us->Vals ys ws->Vals (xs++ys) (us++ws)
 | _,_,_,_,.nil,s=>s
 | _,_,_,_,.cons r t,s => .cons r (Vals.append t s)
theorem Vals.take:∀ {xs:List V} {us:List Value} (n:Nat),Vals xs us->Vals (xs.take n) (us.take n)
 | _,_,0,_ => .nil
 | _,_,_+1,.nil => .nil
 | _,_,n+1,.cons r t => .cons r (Vals.take n t)
theorem Vals.drop:∀ {xs:List V} {us:List Value} (n:Nat),Vals xs us->Vals (xs.drop n) (us.drop n)
 | _,_,0,r=>r
 | _,_,_+1,.nil => .nil
 | _,_,n+1,.cons _ t=>Vals.drop n t
noncomputable def a8F:Option V->Option Value->Prop
 | some v,some u=>RelV v u
 | none,none=>True
 | _,_=>False
noncomputable def KV {κ:Type}:List (κ×V)->List (κ×Value)->Prop:=Paired fun (p:κ×V) (q:κ×Value)=>p.1=q.1/\RelV p.2 q.2
noncomputable def kV:Key->V
 | .inl i => .int i
 | .inr x => .str x
inductive HO where
 | lst (xs:List V)
 | tup (xs:List V)
 | dK (kvs:List (Key×V)) | dT (kvs:List (List Key×V))
 | set (S:Int->Bool) (n:Nat)
 | ins (C dx:Addr) (fs:List (Str×V))
 | own (x:Addr)
 | xd (fs:List (Str×V))
 | met (f x:Addr)
 | rng (lo hi:Int)
 | oJ (o:Obj) (u:HO)
 | vH (ps:Array Value)
 | ext (φ:Heap->Prop)
noncomputable abbrev Hp:=Addr->Option HO
noncomputable def upd (H:Hp) (a:Addr) (o:HO):Hp:=fun b=>if b=a then some o else H b
theorem aH {H:Hp} {a:Addr} {o:HO}:upd H a o a=some o:=by unfold upd;rw [if_pos rfl]
theorem aQ {H:Hp} {a b:Addr} {o:HO} (h:b≠a):upd H a o b=H b:=by unfold upd;rw [if_neg h]
variable {u:HO}
theorem acL {H:Hp} {a b:Addr} {o:HO} (h:H a=some o) (h':H b=some u) (d:o≠u):a≠b:=by
 intro e;subst e;rw [h] at h';exact d (ig.inj h')
theorem bY {H:Hp} {a b:Addr} {o:HO} (h:H a=some o) (h':H b=none):a≠b:=by
 intro e;subst e;rw [h] at h';cases h'
section
variable (P:Program) (w:World)
noncomputable def iR (H:Hp) (h:Heap) (a:Addr):HO->Prop
 | .lst xs=>xs.length<=sizeLine/\∃ (its:List Value) (n:Nat),Vals xs its/\h.get? a=some { cls := .type "list",data := .seq its.toArray n }
 | .tup xs=>xs.length<=sizeLine/\∃ its:List Value,Vals xs its/\IsTup h a its.toArray
 | .dK kvs=>kvs.length<=sizeLine/\(a == sysModules)=false/\∃ vs,KV kvs vs/\h.DictOf (bI P w) a vs
 | .dT kvs=>kvs.length<=sizeLine/\(a == sysModules)=false/\∃ xs:List (List Key×Addr×Value),
   Paired (fun (p:List Key×V) (q:List Key×Addr×Value)=>p.1=q.1/\H q.2.1=some (.tup (p.1.map kV))/\RelV p.2 q.2.2) kvs xs /\
   ∃ o es ep,h.get? a=some o/\o.ExactDict/\o.data = .dict es ep/\es.toList=xs.map (entryOfKey (tupleKind (bI P w)))/\(xs.map (·.1)).Nodup
 | .set S n=>h.SetOf (intKind P w) a S n
 | .ins C dx fs=>H dx=some (.own a)/\fs.length<=1000/\dx≠a/\h.get? a=some (xq C dx) /\
   ∃ mA,h.Ns1 dx mA/\(∀ f,a8F (fs.lookup f) (mA f))/\PySem.Within mA (fs.map (·.1))
 | .own _=>∃ o,h.get? a=some o
 | .xd fs=>∃ mA,h.Ns1 a mA/\∀ f,a8F (fs.lookup f) (mA f)
 | .rng lo hi=>∃ t u v,h.get? a=some { cls := .type "range",data := .fields #[.int lo t,.int hi u,.int 1 v] }
 | .oJ o u=>h.get? a=some o/\iR H h a u
 | .vH ps=>h.get? a=some { cls := .none,data := .fields ps }
 | .met f x=>h.get? a=some (PySem.W.methodObj (.ref f) (.ref x))
 | .ext φ=>φ h/\(∃ o,h.get? a=some o)/\∀ h1 h2:Heap,φ h1->(∀ o,h1.get? a=some o->h2.get? a=some o)->φ h2
def wI (H:Hp) (h:Heap):Prop:=∀ a o,H a=some o->iR P w H h a o
end
section
variable {P:Program} {w:World} {H H':Hp} {h h':Heap} {a:Addr} {o:HO}
theorem iR.lt (x:iR P w H h a o):a < h.objs.size:=by
 cases o with
 | lst xs=>obtain ⟨_,_,_,_,e⟩:=x;exact cg e
 | tup xs=>obtain ⟨_,_,_,p⟩:=x;exact p.lt
 | dK kvs=>obtain ⟨_,_,_,_,o,_,_,e,_⟩:=x;exact cg e
 | dT kvs=>obtain ⟨_,_,_,_,o,_,_,e,_⟩:=x;exact cg e
 | set S n=>obtain ⟨o,_,_,_,e,_⟩:=x;exact cg e
 | ins C dx fs=>obtain ⟨_,_,_,e,_⟩:=x;exact cg e
 | own y=>obtain ⟨_,e⟩:=x;exact cg e
 | xd fs=>obtain ⟨_,⟨_,_,_,e,_⟩,_⟩:=x;exact cg e
 | rng lo hi=>obtain ⟨_,_,_,e⟩:=x;exact cg e
 | oJ ob u=>obtain ⟨e,_⟩:=x;exact cg e
 | vH ps=>exact cg (show h.get? a=some _ from x)
 | met f y=>exact cg (show h.get? a=some _ from x)
 | ext φ=>obtain ⟨_,⟨_,e⟩,_⟩:=x;exact cg e
theorem Paired.arV {α β:Type} {F G:α->β->Prop}:∀ {l₁:List α} {l₂:List β},Paired F l₁ l₂->(∀ a b,F a b->G a b)->Paired G l₁ l₂
 | _,_,.nil,_ => .nil
 | _,_,.cons r t,f => .cons (f _ _ r) (Paired.arV t f)
theorem iR.stay (x:iR P w H h a o) (k:∀ b u,(b=a∨H b=some (.own a))->h.get? b=some u->h'.get? b=some u)
  (ho:∀ b,H b=some (.own a)->H' b=some (.own a)) (ht:∀ b xs,H b=some (.tup xs)->H' b=some (.tup xs)):iR P w H' h' a o:=by
 induction o with
 | lst xs=>obtain ⟨z,its,n,r,e⟩:=x;exact ⟨z,its,n,r,k _ _ (.inl rfl) e⟩
 | tup xs=>obtain ⟨z,its,r,ob,e,c⟩:=x;exact ⟨z,its,r,ob,k _ _ (.inl rfl) e,c⟩
 | dK kvs=>obtain ⟨z,y,vs,r,ob,es,ep,e,c⟩:=x;exact ⟨z,y,vs,r,ob,es,ep,k _ _ (.inl rfl) e,c⟩
 | dT kvs =>
  obtain ⟨z,y,xs,r,ob,es,ep,e,c⟩:=x;exact ⟨z,y,xs,Paired.arV r fun p q z=>⟨z.1,ht _ _ z.2.1,z.2.2⟩,ob,es,ep,k _ _ (.inl rfl) e,c⟩
 | set S n=>obtain ⟨ob,es,ep,t,e,c⟩:=x;exact ⟨ob,es,ep,t,k _ _ (.inl rfl) e,c⟩
 | ins C dx fs =>
  obtain ⟨d,z,ne,e,mA,⟨od,es,ep,e2,c⟩,r⟩:=x;exact ⟨ho _ d,z,ne,k _ _ (.inl rfl) e,mA,⟨od,es,ep,k _ _ (.inr d) e2,c⟩,r⟩
 | own y=>obtain ⟨ob,e⟩:=x;exact ⟨ob,k _ _ (.inl rfl) e⟩
 | xd fs=>obtain ⟨mA,⟨od,es,ep,e,c⟩,r⟩:=x;exact ⟨mA,⟨od,es,ep,k _ _ (.inl rfl) e,c⟩,r⟩
 | rng lo hi=>obtain ⟨t,u,v,e⟩:=x;exact ⟨t,u,v,k _ _ (.inl rfl) e⟩
 | oJ ob u ih=>obtain ⟨e,q⟩:=x;exact ⟨k _ _ (.inl rfl) e,ih q⟩
 | vH ps =>
  have e:h.get? a=some { cls := .none,data := .fields ps }:=x;show h'.get? a=some { cls := .none,data := .fields ps };exact k a _ (.inl rfl) e
 | met f y =>
  have e:h.get? a=some (PySem.W.methodObj (.ref f) (.ref y)):=x;show h'.get? a=some (PySem.W.methodObj (.ref f) (.ref y));exact k a _ (.inl rfl) e
 | ext φ=>obtain ⟨p,⟨o,e⟩,st⟩:=x;exact ⟨st _ _ p fun o q=>k _ _ (.inl rfl) q,⟨o,k _ _ (.inl rfl) e⟩,st⟩
theorem wI.lt (x:wI P w H h) (e:H a=some o):a < h.objs.size:=(x a o e).lt
theorem wI.fresh (x:wI P w H h) (e:h.objs.size<=a):H a=none:=by
 cases q:H a with
 | none=>rfl
 | some u=>exact absurd (cu (x.lt q) e) (jq _)
theorem wI.kept (x:wI P w H h) (k:∀ b u,h.get? b=some u->h'.get? b=some u):wI P w H h':=fun a o e =>
 (x a o e).stay (fun b u _ q=>k b u q) (fun _ q=>q) fun _ _ q=>q
theorem wI.laid (x:wI P w H h) (k:∀ b u,h.get? b=some u->h'.get? b=some u) (hp:h.objs.size<=a) (new:iR P w (upd H a o) h' a o):wI P w (upd H a o) h':=fun b u e=>by
 have hn:=x.fresh hp;by_cases hb:b=a
 ·subst hb;rw [aH] at e;cases e;exact new
 ·rw [aQ hb] at e;exact (x b u e).stay (fun c v _ q=>k c v q) (fun c q=>by rw [aQ (bY q hn)];exact q) fun c xs q=>by rw [aQ (bY q hn)];exact q
end
def Rd (H:Hp) (a:Addr) (u:HO):Prop:=H a=some u∨∃ o,H a=some (.oJ o u)
theorem Rd.of {H:Hp} {a:Addr} (h:H a=some u):Rd H a u := .inl h
theorem Rd.ok {w:World} {H:Hp} {a:Addr} (r:Rd H a u) (x:wI P w H h):iR P w H h a u:=by
 rcases r with r | ⟨o,r⟩
 ·exact x a u r
 ·obtain ⟨_,q⟩:=x a _ r;exact q
noncomputable def Mut:Option HO->Prop
 | some (.lst _)=>True
 | some (.dK _)=>True
 | some (.dT _)=>True
 | some (.set _ _)=>True
 | some (.ins _ _ _)=>True
 | some (.ext _)=>True
 | _=>False
section
variable {P:Program} {w:World} {H:Hp} {h h':Heap} {x e:Addr} {o':HO}
theorem wI.write (ok:wI P w H h) (mu:Mut (H x)) (he:e=x∨H e=some (.own x)) (k:∀ b u,b≠e->h.get? b=some u->h'.get? b=some u) (heo:∃ u,h'.get? e=some u)
  (new:iR P w (upd H x o') h' x o'):wI P w (upd H x o') h':=fun b u q=>by
 have ay1:∀ c y,H c=some (.own y)->c≠x:=fun c y r z=>by subst z;rw [r] at mu;exact mu
 have aDA:∀ c xs,H c=some (.tup xs)->c≠x:=fun c xs r z=>by subst z;rw [r] at mu;exact mu
 by_cases hb:b=x
 ·subst hb;rw [aH] at q;cases q;exact new
 ·rw [aQ hb] at q;by_cases hbe:b=e
  ·have q':H b=some (.own x):=by
    rcases he with z | z
    ·exact absurd (hbe.trans z) hb
    ·rw [hbe];exact z
   rw [q] at q';cases q';obtain ⟨v,hv⟩:=heo;exact ⟨v,by rw [hbe];exact hv⟩
  ·refine (ok b u q).stay (fun c v hc r=>k c v ?_ r) (fun c r=>by rw [aQ (ay1 c b r)];exact r) fun c xs r=>by rw [aQ (aDA c xs r)];exact r
   rcases hc with rfl | hc
   ·exact hbe
   ·rintro rfl;rcases he with z | z
    ·exact ay1 c b hc z
    ·rw [hc] at z;cases z;exact hb rfl
end
structure Un (fs ex:List Addr) (H H':Hp) (h h':Heap):Prop where
 keep:∀ b o,h.get? b=some o->H b=none->b ∉ fs->b ∉ ex->h'.get? b=some o
 slot:∀ b o,h.get? b=some o->H b=none->b∈fs->b ∉ ex->∃ sl,h'.get? b=some { o with slots:=sl }
 free:∀ b o,h.get? b=some o->H b=none->b ∉ ex->H' b=none
 there:∀ b o,h.get? b=some o->b ∉ ex->∃ o',h'.get? b=some o'
 tups:∀ b xs,H b=some (.tup xs)->H' b=some (.tup xs)
 eZ:∀ b o u,H b=some (.oJ o u)->H' b=some (.oJ o u)
 rD:∀ b ps,H b=some (.vH ps)->∃ more,H' b=some (.vH (ps++more))
section
variable {fs fs' ex ex':List Addr} {H H1 H2:Hp} {h h1 h2 h':Heap} {a x e:Addr} {o:HO}
theorem Un.any (u:Un fs ex H H1 h h1) {b:Addr} {ob:Obj} (q:h.get? b=some ob) (n:H b=none) (hx:b ∉ ex):∃ sl,h1.get? b=some { ob with slots:=sl }:=by
 by_cases hb:b∈fs
 ·exact u.slot b ob q n hb hx
 ·exact ⟨ob.slots,u.keep b ob q n hb hx⟩
theorem Un.trans (a:Un fs ex H H1 h h1) (b:Un fs ex H1 H2 h1 h2):Un fs ex H H2 h h2 where
 keep:=fun c ob q n hc hx=>b.keep c ob (a.keep c ob q n hc hx) (a.free c ob q n hx) hc hx
 slot:=fun c ob q n hc hx=>by
  obtain ⟨sl,e1⟩:=a.slot c ob q n hc hx;obtain ⟨sl',e2⟩:=b.slot c _ e1 (a.free c ob q n hx) hc hx;exact ⟨sl',e2⟩
 free:=fun c ob q n hx=>by
  obtain ⟨o',e1⟩:=a.there c ob q hx;exact b.free c o' e1 (a.free c ob q n hx) hx
 there:=fun c ob q hx=>by
  obtain ⟨o',e1⟩:=a.there c ob q hx;exact b.there c o' e1 hx
 tups:=fun c xs q=>b.tups c xs (a.tups c xs q)
 eZ:=fun c ob xs q=>b.eZ c ob xs (a.eZ c ob xs q)
 rD:=fun c ps q=>by
  obtain ⟨m1,e1⟩:=a.rD c ps q;obtain ⟨m2,e2⟩:=b.rD c _ e1;exact ⟨m1++m2,by rw [e2,Array.append_assoc]⟩
theorem Un.kept (k:∀ b u,h.get? b=some u->h'.get? b=some u):Un fs ex H H h h' :=
 ⟨fun b ob q _ _ _=>k b ob q,fun b ob q _ _ _=>⟨ob.slots,k b ob q⟩,fun _ _ _ n _=>n,fun b ob q _=>⟨ob,k b ob q⟩,fun _ _ q=>q,fun _ _ _ q=>q,fun _ ps q=>⟨#[],by rw [q];simp⟩⟩
theorem Un.refl:Un fs ex H H h h:=Un.kept fun _ _ q=>q
theorem Un.laid (k:∀ b u,h.get? b=some u->h'.get? b=some u) (hp:h.objs.size<=a) (hn:H a=none):Un fs ex H (upd H a o) h h' where
 keep:=fun b u q _ _ _=>k b u q
 slot:=fun b u q _ _ _=>⟨u.slots,k b u q⟩
 free:=fun b u q n _=>by rw [aQ (gk (cu (cg q) hp))];exact n
 there:=fun b u q _=>⟨u,k b u q⟩
 tups:=fun b xs q=>by rw [aQ (bY q hn)];exact q
 eZ:=fun b u xs q=>by rw [aQ (bY q hn)];exact q
 rD:=fun b ps q=>⟨#[],by rw [aQ (bY q hn),q];simp⟩
theorem Un.write (mu:Mut (H x)) (he:e=x∨H e=some (.own x)) (k:∀ b u,b≠e->h.get? b=some u->h'.get? b=some u) (heo:∃ u,h'.get? e=some u):Un fs ex H (upd H x o) h h':=by
 have hx:∀ b,H b=none->b≠x:=fun b n z=>by subst z;rw [n] at mu;exact mu
 have hb:∀ b,H b=none->b≠e:=fun b n z=>by
  subst z;rcases he with r | r
  ·exact hx b n r
  ·rw [n] at r;cases r
 have hm:∀ b u,H b=some u->¬ Mut (some u)->b≠x:=fun b u q nm z=>by subst z;rw [q] at mu;exact nm mu
 refine ⟨fun b u q n _ _=>k b u (hb b n) q,fun b u q n _ _=>⟨u.slots,k b u (hb b n) q⟩,fun b u q n _=>by rw [aQ (hx b n)];exact n,fun b u q _=>?_,
  fun b xs q=>by rw [aQ (hm b _ q fun z=>z)];exact q,fun b u xs q=>by rw [aQ (hm b _ q fun z=>z)];exact q,fun b ps q=>⟨#[],by rw [aQ (hm b _ q fun z=>z),q];simp⟩⟩
 by_cases hbe:b=e
 ·subst hbe;exact heo
 ·exact ⟨u,k b u hbe q⟩
theorem Un.mono (u:Un fs ex H H1 h h1) (hs:∀ b∈fs,b∈fs') (hx:∀ b∈ex,b∈ex'):Un fs' ex' H H1 h h1 :=
 ⟨fun b ob q n hb he=>u.keep b ob q n (fun z=>hb (hs b z)) fun z=>he (hx b z),fun _ _ q n _ he=>u.any q n fun z=>he (hx _ z),fun b ob q n he=>u.free b ob q n fun z=>he (hx b z),fun b ob q he=>u.there b ob q fun z=>he (hx b z),u.tups,u.eZ,u.rD⟩
end
noncomputable def trk (h:Heap) (H:Hp):List Addr:=(dh h.objs.size).filter fun a=>(H a).isSome
noncomputable def a0M (h:Heap) (H:Hp):Heap:=a0p h (trk h H)
theorem af2 (h:Heap) (H:Hp):(a0M h H).objs.size=h.objs.size:=PySem.W.hideAll_size _ _
theorem agP {H:Hp} {b:Addr} {o:Obj} (e:h.get? b=some o) (n:H b=none):(a0M h H).get? b=some o :=
 PySem.W.hideAll_get _ e fun hm=>by
  have q:(H b).isSome=true:=(a0q.mp hm).2;rw [n] at q;simp at q
theorem am1 {H:Hp} {b:Addr} {o:Obj} (e:(a0M h H).get? b=some o):h.get? b=some o/\H b=none:=by
 have e':h.get? b=some o:=PySem.W.of_hideAll (trk h H) e;refine ⟨e',?_⟩;cases q:H b with
 | none=>rfl
 | some x =>
  have hm:b∈trk h H:=a0q.mpr ⟨ji.mpr (cg e'),by simp [q]⟩;have z:(a0M h H).get? b=none:=PySem.W.hideAll_none (trk h H) hm;rw [z] at e;cases e
noncomputable def am2 (g h:Heap) (L:Addr):List (Addr×Obj):=(dh h.objs.size).filterMap fun a=>if a=L∨(g.get? a).isSome=true then none else (h.get? a).map fun o=>(a,o)
noncomputable def rest (g h:Heap) (L d:Addr):List (Addr×Obj):=(am2 g h L).filter fun p=>decide (p.1≠d)
end
variable {v:V}{u:Value}{g':Array GenState}{t':Nat}{d':Drawn}{ch:List Addr}{e:Expr}
section
structure Mod (K:bw) (mg:Str->Option Value) (base:Heap):Prop where
 kin:K.In base
 glob:base.Ns mainGlobals mg
 blt:∃ mb,base.Ns builtinsNs mb/\∀ x:Str,x ≠ "__name__" -> mb x=bootBuiltins x
 nolimit:base.NoLimit
structure Cx where
 prog:Program
 w:World
 K:bw
 mg:Str->Option Value
 base:Heap
 A:Around
 N:List Str
 s₀:Shared
 H₀:Hp
 env:Env
 outer:List Env
 stack:List Env
 ex:List Addr
 fn:Str->Bool
 calm:Bool
 pn:List (Addr×Obj)
 tp:List (Addr×List V)
 xe:Value->Shared->Prop
 need:Bool:=false
noncomputable def frs (l:List Env):List Addr:=l.filterMap (·.frame)
noncomputable abbrev Cx.fs (X:Cx):List Addr:=frs X.outer
def Vis (sc:Scope) (x:Str):Prop:=sc.names.lookup x=some .local∨sc.names.lookup x=some .cell∨sc.names.lookup x=some .free
def Loc (sc:Scope) (x:Str):Prop:=sc.names.lookup x=some .local∨sc.names.lookup x=some .cell
noncomputable def Look (env:Env) (h:Heap) (m:Str->Option Value) (x:Str) (u:Value):Prop :=
 (env.kindOf x=some .local/\m x=some u)∨((env.kindOf x=some .cell∨env.kindOf x=some .free)/\∃ c,env.cells.lookup x=some c/\h.IsCell c (some u))
structure Cx.Ok (X:Cx):Prop where
 mod:Mod X.K X.mg X.base
 kind:X.env.scope.kind = .function
 glob:X.env.globals=mainGlobals
 blt:X.env.builtins=builtinsNs
 above:X.s₀.heap.objs.size<=X.env.locals
 inj:∀ x y c,X.env.cells.lookup x=some c->X.env.cells.lookup y=some c->x=y
 has:∀ x,(X.env.kindOf x=some .cell∨X.env.kindOf x=some .free)->∃ c,X.env.cells.lookup x=some c
 cab:∀ x c,X.fn x=true->X.env.cells.lookup x=some c->X.s₀.heap.objs.size<=c
 hd:X.calm=true->X.A.handled=none
 frames:X.A.frames=some X.stack
 stk:X.stack=X.outer∨(X.stack=X.env :: X.outer/\X.env.frame=some X.env.locals)
 exf:∀ b∈X.ex,b≠X.env.locals/\∀ x c,X.env.cells.lookup x=some c->c≠b
 bs:∀ b o,X.base.get? b=some o->X.s₀.heap.get? b=some o/\X.H₀ b=none
 bsz:X.base.objs.size<=X.s₀.heap.objs.size
 a3E:∀ b o,X.base.get? b=some o->b ∉ X.ex
 a5R:∀ b∈X.ex,b ∉ X.fs
 nU:X.s₀.heap.FunFrames X.base X.outer
 frf:∀ b∈X.fs,X.H₀ b=none
def Hnd (A:Around) (H:Hp):Prop:=A.handled=none∨∃ x o u vs,A.handled=some (.ref x)/\H x=some (.oJ o u)/\o.data = .fields vs/\vs[2]?=some .none
theorem Hnd.mono {A:Around} {H H':Hp} (h:Hnd A H) (f:∀ b o u,H b=some (.oJ o u)->H' b=some (.oJ o u)):Hnd A H':=by
 rcases h with z | ⟨x,o,u,vs,a,b,c⟩
 ·exact .inl z
 ·exact .inr ⟨x,o,u,vs,a,f _ _ _ b,c⟩
theorem Hnd.heap {w:World} {A:Around} {H:Hp} (q:Hnd A H) (hok:wI P w H h):a3C A h:=by
 rcases q with z | ⟨x,o,u,vs,a,b,c⟩
 ·exact .inl z
 ·exact .inr ⟨x,o,vs,a,(hok x _ b).1,c⟩
structure Inv (X:Cx) (pins:List (Addr×Obj)) (σ:List (Option V)) (H:Hp) (s:Shared):Prop where
 ok:X.Ok
 os:s.os=X.s₀.os
 bare:AllBare s.gens
 base:Un X.fs X.ex X.H₀ H X.s₀.heap s.heap
 loc:∃ m,s.heap.Ns X.env.locals m/\∀ (i:Nat) (x:Str) (v:V),X.N[i]?=some x->σ[i]?=some (some v)->Vis X.env.scope x->∃ u,RelV v u/\Look X.env s.heap m x u
 cell:∀ x c,X.env.cells.lookup x=some c->∃ v,s.heap.IsCell c v
 free:H X.env.locals=none
 jG:∀ x c,X.env.cells.lookup x=some c->H c=none
 pin:∀ p∈X.pn++pins,s.heap.get? p.1=some p.2/\H p.1=none/\p.1≠X.env.locals/\p.1 ∉ X.fs/\∀ v,p.2.data ≠ .cell v
 hok:wI X.prog X.w H s.heap
 len:σ.length=X.N.length
 hnd:Hnd X.A H
 tup:∀ p∈X.tp,H p.1=some (.tup p.2)
section
variable {X:Cx} {pins:List (Addr×Obj)} {σ:List (Option V)} {H H':Hp} {s:Shared} {h':Heap}
theorem Cx.Ok.aDB (ok:X.Ok) {b:Addr} {o:Obj} (e:X.base.get? b=some o):b ∉ X.fs:=fun hb=>by
 have:=(ok.nU.mem hb).1;rw [e] at this;cases this
theorem Inv.bs (I:Inv X pins σ H s):∀ b o,X.base.get? b=some o->s.heap.get? b=some o/\H b=none:=fun b o e =>
 ⟨I.base.keep b o (I.ok.bs b o e).1 (I.ok.bs b o e).2 (I.ok.aDB e) (I.ok.a3E b o e),I.base.free b o (I.ok.bs b o e).1 (I.ok.bs b o e).2 (I.ok.a3E b o e)⟩
theorem Inv.bk (I:Inv X pins σ H s):∀ b o,X.base.get? b=some o->s.heap.get? b=some o:=fun b o e=>(I.bs b o e).1
theorem Inv.mod (I:Inv X pins σ H s):Mod X.K X.mg X.base:=I.ok.mod
theorem Inv.kIn (I:Inv X pins σ H s):X.K.In s.heap:=I.ok.mod.kin.keeps I.bk
theorem Inv.nolimit (I:Inv X pins σ H s):s.heap.NoLimit:=I.ok.mod.nolimit.keeps I.bk
theorem Inv.fr (I:Inv X pins σ H s):∃ m,Fr X.base X.env.locals s.heap m :=
 let ⟨m,hn,_⟩:=I.loc
 ⟨m,hn,I.bk,ju I.ok.bsz I.ok.above⟩
theorem Inv.lt (I:Inv X pins σ H s):X.env.locals < s.heap.objs.size:=let ⟨_,hn,_⟩:=I.loc;hn.lt
theorem Inv.sz (I:Inv X pins σ H s):X.s₀.heap.objs.size<=s.heap.objs.size:=ju I.ok.above (jx I.lt)
theorem Inv.aDC (I:Inv X pins σ H s) {a:Addr} (h:s.heap.objs.size<=a):a ∉ X.fs:=fun hb=>by
 obtain ⟨_,o,ho,_⟩:=I.ok.nU.mem hb;exact absurd (cu (cg ho) (ju I.sz h)) (jq _)
theorem Inv.cne (I:Inv X pins σ H s):∀ x c,X.env.cells.lookup x=some c->c≠X.env.locals:=fun x c e z=>by
 obtain ⟨v,o,ho,hd⟩:=I.cell x c e;obtain ⟨m,⟨o',es,ep,ho',hd',_⟩,_⟩:=I.loc;rw [z,ho'] at ho;cases ho;rw [hd'] at hd;cases hd
theorem Inv.nU (I:Inv X pins σ H s):s.heap.FunFrames X.base X.outer:=by
 have all:∀ (l:List Env),(∀ b∈frs l,b∈X.fs)->X.s₀.heap.FunFrames X.base l->s.heap.FunFrames X.base l:=by
  intro l
  induction l with
  | nil=>intro _ _;trivial
  | cons env r ih =>
   intro hs hl;obtain ⟨hk,⟨L,o,hf,hn,ho,hd⟩,hr⟩:=hl;have hL:L∈X.fs:=hs L (by unfold frs;rw [a01,hf];exact jj);obtain ⟨sl,e⟩:=I.base.slot L o ho (I.ok.frf L hL) hL fun z=>I.ok.a5R L z hL;exact ⟨hk,⟨L,_,hf,hn,e,hd⟩,ih (fun b hb=>hs b (by unfold frs;rw [a01,hf];exact iu _ hb)) hr⟩
 exact all X.outer (fun _ hb=>hb) I.ok.nU
theorem Inv.stack (I:Inv X pins σ H s):s.heap.FunFrames X.base X.stack:=by
 rcases I.ok.stk with e | ⟨e,hf⟩
 ·rw [e];exact I.nU
 ·rw [e];obtain ⟨m,hn,_⟩:=I.loc;refine .cons (by rw [I.ok.kind];decide) hf hn ?_ I.nU;exact Heap.get?_none_of_le (ju I.ok.bsz I.ok.above)
theorem Inv.aaS (I:Inv X pins σ H s):∀ b∈frs X.stack,b∈X.env.locals :: X.fs:=fun b hb=>by
 rcases I.ok.stk with e | ⟨e,hf⟩
 ·rw [e] at hb;exact iu _ hb
 ·rw [e] at hb;unfold frs at hb;rw [a01,hf] at hb;exact hb
theorem Inv.a5S (I:Inv X pins σ H s):∀ b∈frs X.stack,H b=none:=fun b hb=>by
 rcases jc.mp (I.aaS b hb) with e | hb
 ·rw [e];exact I.free
 ·obtain ⟨_,o,ho,_⟩:=I.ok.nU.mem hb;exact I.base.free b o ho (I.ok.frf b hb) fun z=>I.ok.a5R b z hb
theorem Inv.step (I:Inv X pins σ H s)
  (hch:∀ b∈ch,(b∈X.ex∨X.s₀.heap.objs.size<=b)/\b≠X.env.locals/\(∀ x c,X.env.cells.lookup x=some c->c≠b)/\∀ p∈X.pn++pins,p.1≠b)
  (keep:∀ b o,b≠X.env.locals->b ∉ X.fs->b ∉ ch->s.heap.get? b=some o->H b=none->h'.get? b=some o)
  (slot:∀ b o,b≠X.env.locals->b∈X.fs->b ∉ ch->s.heap.get? b=some o->H b=none->∃ sl,h'.get? b=some { o with slots:=sl }) (free:∀ b o,b ∉ ch->s.heap.get? b=some o->H b=none->H' b=none)
  (there:∀ b o,b ∉ ch->s.heap.get? b=some o->∃ o',h'.get? b=some o')
  (tups:∀ b xs,H b=some (.tup xs)->H' b=some (.tup xs)) (eZ:∀ b o u,H b=some (.oJ o u)->H' b=some (.oJ o u)) (rD:∀ b ps,H b=some (.vH ps)->∃ more,H' b=some (.vH (ps++more)))
  (ns:∀ m,s.heap.Ns X.env.locals m->h'.Ns X.env.locals m) (hok:wI X.prog X.w H' h') (hg:AllBare g') :
  Inv X pins σ H' { s with heap:=h',gens:=g',drawn:=d',toks:=t' }:=by
 have neL:∀ b o,X.s₀.heap.get? b=some o->b≠X.env.locals:=fun b o e=>gk (cu (cg e) I.ok.above)
 have neC:∀ b o,X.s₀.heap.get? b=some o->b ∉ X.ex->b ∉ ch:=fun b o e hx hb=>by
  rcases (hch b hb).1 with z | z
  ·exact hx z
  ·exact absurd (cu (cg e) z) (jq _)
 have cellK:∀ x c,X.env.cells.lookup x=some c->∀ v,s.heap.IsCell c v->h'.IsCell c v:=fun x c e v ⟨o,ho,hd⟩=>by
  have nch:c ∉ ch:=fun z=>(hch c z).2.2.1 x c e rfl;by_cases hc:c∈X.fs
  ·obtain ⟨sl,q⟩:=slot c o (I.cne x c e) hc nch ho (I.jG x c e);exact ⟨_,q,hd⟩
  ·exact ⟨o,keep c o (I.cne x c e) hc nch ho (I.jG x c e),hd⟩
 refine ⟨I.ok,I.os,hg,⟨fun b o e n hb hx=>?_,fun b o e n hb hx=>?_,fun b o e n hx=>?_,fun b o e hx=>?_,fun b xs e=>tups b xs (I.base.tups b xs e),fun b o xs e=>eZ b o xs (I.base.eZ b o xs e),fun b ps e=>?_⟩,?_,fun x c e=>?_,?_,fun x c e=>?_,fun p hp=>?_,hok,I.len,I.hnd.mono eZ,fun p hp=>tups _ _ (I.tup p hp)⟩
 ·exact keep b o (neL b o e) hb (neC b o e hx) (I.base.keep b o e n hb hx) (I.base.free b o e n hx)
 ·obtain ⟨sl,e1⟩:=I.base.slot b o e n hb hx;obtain ⟨sl',e2⟩:=slot b _ (neL b o e) hb (neC b o e hx) e1 (I.base.free b o e n hx);exact ⟨sl',e2⟩
 ·obtain ⟨o',e1⟩:=I.base.there b o e hx;exact free b o' (neC b o e hx) e1 (I.base.free b o e n hx)
 ·obtain ⟨o',e1⟩:=I.base.there b o e hx;exact there b o' (neC b o e hx) e1
 ·obtain ⟨m1,e1⟩:=I.base.rD b ps e;obtain ⟨m2,e2⟩:=rD b _ e1;exact ⟨m1++m2,by rw [e2,Array.append_assoc]⟩
 ·obtain ⟨m,hn,hl⟩:=I.loc;refine ⟨m,ns m hn,fun i x v e1 e2 e3=>?_⟩;obtain ⟨u,r,l⟩:=hl i x v e1 e2 e3;refine ⟨u,r,?_⟩;rcases l with l | ⟨k,c,e,z⟩
  ·exact .inl l
  ·exact .inr ⟨k,c,e,cellK x c e _ z⟩
 ·obtain ⟨v,z⟩:=I.cell x c e;exact ⟨v,cellK x c e v z⟩
 ·obtain ⟨m,⟨o,_,_,ho,_⟩,_⟩:=I.loc;exact free _ o (fun z=>(hch _ z).2.1 rfl) ho I.free
 ·obtain ⟨v,o,ho,hd⟩:=I.cell x c e;exact free c o (fun z=>(hch c z).2.2.1 x c e rfl) ho (I.jG x c e)
 ·obtain ⟨e,n,ne,nf,d⟩:=I.pin p hp;have nch:p.1 ∉ ch:=fun z=>(hch p.1 z).2.2.2 p hp rfl;exact ⟨keep p.1 p.2 ne nf nch e n,free p.1 p.2 nch e n,ne,nf,d⟩
theorem Inv.un (I:Inv X pins σ H s) (u:Un X.fs [] H H' s.heap h') (hok:wI X.prog X.w H' h'):Inv X pins σ H' { s with heap:=h',toks:=t' }:=by
 obtain ⟨m,⟨o,es,ep,ho,r⟩,_⟩:=id I.loc;obtain ⟨sl,hL⟩:=u.any ho I.free (by simp)
 exact I.step (g':=s.gens) (d':=s.drawn) (ch:=[]) (fun _ z=>nomatch z) (fun b o _ hb _ e n=>u.keep b o e n hb (by simp)) (fun b o _ hb _ e n=>u.slot b o e n hb (by simp)) (fun b o _ e n=>u.free b o e n (by simp)) (fun b o _ e=>u.there b o e (by simp)) u.tups u.eZ u.rD (fun m' hm=>by
  obtain ⟨o',es',ep',ho',r'⟩:=hm;rw [ho] at ho';cases ho';exact ⟨_,es',ep',hL,r'⟩) hok I.bare
theorem Inv.call (I:Inv X pins σ H s) (u:Un (frs X.stack) ch H H' s.heap h') (hok:wI X.prog X.w H' h') (hg:AllBare g')
  (hch:∀ b∈ch,(b∈X.ex∨X.s₀.heap.objs.size<=b)/\b≠X.env.locals/\(∀ x c,X.env.cells.lookup x=some c->c≠b)/\∀ p∈X.pn++pins,p.1≠b) :
  Inv X pins σ H' { s with heap:=h',gens:=g',drawn:=d',toks:=t' }:=by
 obtain ⟨m,⟨o,es,ep,ho,r⟩,_⟩:=id I.loc;obtain ⟨sl,hL⟩:=u.any ho I.free fun z=>(hch _ z).2.1 rfl
 exact I.step (ch:=ch) hch (fun b o hL hb hc e n=>u.keep b o e n (fun z=>(jc.mp (I.aaS b z)).elim hL hb) hc) (fun b o _ _ hc e n=>u.any e n hc) (fun b o hc e n=>u.free b o e n hc) (fun b o hc e=>u.there b o e hc) u.tups u.eZ u.rD (fun m' hm=>by
  obtain ⟨o',es',ep',ho',r'⟩:=hm;rw [ho] at ho';cases ho';exact ⟨_,es',ep',hL,r'⟩) hok hg
theorem Inv.turned (I:Inv X pins σ H s) (k:∀ b o,b≠it->s.heap.get? b=some o->h'.get? b=some o) (hn:H it=none) (hL:it≠X.env.locals)
  (h1:it∈X.ex∨X.s₀.heap.objs.size<=it) (h2:∀ x c,X.env.cells.lookup x=some c->c≠it) (h3:∀ p∈X.pn++pins,p.1≠it):Inv X pins σ H { s with heap:=h',toks:=t' }:=by
 have nit:∀ b u,H b=some u->b≠it:=fun b u e z=>by rw [z,hn] at e;cases e
 refine I.step (g':=s.gens) (d':=s.drawn) (ch:=[it]) (fun b hb=>?_) (fun b o _ _ hc e _=>k b o (fun z=>hc (by simp [z])) e) (fun b o _ _ hc e _=>⟨o.slots,k b o (fun z=>hc (by simp [z])) e⟩) (fun _ _ _ _ n=>n)
  (fun b o hc e=>⟨o,k b o (fun z=>hc (by simp [z])) e⟩) (fun _ _ e=>e) (fun _ _ _ e=>e) (fun b ps e=>⟨#[],by rw [e];simp⟩) (fun m hm=>?_) (fun b u e=>?_) I.bare
 ·have e:b=it:=by simpa using hb
  subst e;exact ⟨h1,hL,h2,h3⟩
 ·obtain ⟨o,es,ep,ho,r⟩:=hm;exact ⟨o,es,ep,k _ o (Ne.symm hL) ho,r⟩
 ·refine (I.hok b u e).stay (fun c v hc q=>k c v ?_ q) (fun _ q=>q) fun _ _ q=>q;rcases hc with z | z
  ·rw [z];exact nit b u e
  ·exact nit c _ z
theorem Inv.tok (I:Inv X pins σ H s) (t:Nat):Inv X pins σ H { s with toks:=t }:=I.un (h':=s.heap) (t':=t) Un.refl I.hok
theorem Inv.kept {t':Nat} (I:Inv X pins σ H s) (k:∀ b u,s.heap.get? b=some u->h'.get? b=some u):Inv X pins σ H { s with heap:=h',toks:=t' }:=I.un (Un.kept k) (I.hok.kept k)
theorem Inv.laid {a:Addr} {o:HO} {t':Nat} (I:Inv X pins σ H s) (k:∀ b u,s.heap.get? b=some u->h'.get? b=some u) (hp:s.heap.objs.size<=a) (new:iR X.prog X.w (upd H a o) h' a o) :
  Inv X pins σ (upd H a o) { s with heap:=h',toks:=t' }:=I.un (Un.laid k hp (I.hok.fresh hp)) (I.hok.laid k hp new)
theorem Inv.write {x e:Addr} {o:HO} {t':Nat} (I:Inv X pins σ H s) (mu:Mut (H x)) (he:e=x∨H e=some (.own x)) (k:∀ b u,b≠e->s.heap.get? b=some u->h'.get? b=some u) (heo:∃ u,h'.get? e=some u)
  (new:iR X.prog X.w (upd H x o) h' x o):Inv X pins σ (upd H x o) { s with heap:=h',toks:=t' }:=I.un (Un.write mu he k heo) (I.hok.write mu he k heo new)
theorem Inv.weak {σ':List (Option V)} (I:Inv X pins σ H s) (hl:σ'.length=σ.length) (w:∀ (i:Nat) v,σ'[i]?=some (some v)->σ[i]?=some (some v)):Inv X pins σ' H s :=
 ⟨I.ok,I.os,I.bare,I.base,let ⟨m,hn,hl'⟩:=I.loc;⟨m,hn,fun i x v e1 e2 e3=>hl' i x v e1 (w i v e2) e3⟩,I.cell,I.free,I.jG,I.pin,I.hok,hl.trans I.len,I.hnd,I.tup⟩
theorem Inv.acM {zJ:List (Addr×Obj)} (I:Inv X pins σ H s) (h:∀ p∈zJ,s.heap.get? p.1=some p.2/\H p.1=none/\p.1≠X.env.locals/\p.1 ∉ X.fs/\∀ v,p.2.data ≠ .cell v):Inv X zJ σ H s :=
 ⟨I.ok,I.os,I.bare,I.base,I.loc,I.cell,I.free,I.jG,fun p hp=>(qe.mp hp).elim (fun z=>I.pin p (zc _ z)) (h p),I.hok,I.len,I.hnd,I.tup⟩
theorem a8G {N:List Str} (hN:N.Nodup) {i j:Nat} {x:Str} (a:N[i]?=some x) (b:N[j]?=some x):i=j:=by
 obtain ⟨h1,e1⟩:=cj.mp a;obtain ⟨h2,e2⟩:=cj.mp b;exact (List.getElem_inj hN).mp (e1.trans e2.symm)
theorem a4C {M:Model} {A:Around} {E:Value->Shared->Prop} {i:Nat} {x:Str} (I:Inv X pins σ H s) (hN:X.N.Nodup) (hi:X.N[i]?=some x) (hx:Loc X.env.scope x) (r:RelV v u)
  (h:∀ s',Inv X pins (σ.set i (some v)) H s'->(∃ a,nu a s.heap s'.heap/\(a=X.env.locals∨X.env.cells.lookup x=some a))->Q () s') (hf:X.fn x=true∨X.env.scope.names.lookup x=some .local:=by first | exact .inl rfl | exact .inr rfl | assumption):wpAny M A (storeName X.env x u) Q E s:=by
 obtain ⟨m,hn,hl⟩:=id I.loc;have hcls:(X.env.scope.kind == .class || (X.env.scope.kind == .module&&X.env.locals != X.env.globals))=false:=by rw [I.ok.kind];rfl
 have hiσ:i < σ.length:=by rw [I.len];exact (cj.mp hi).1
 have cne:=I.cne
 have tracked:∀ {a:Addr} {h':Heap},(∃ o,s.heap.get? a=some o/\H a=none)->nu a s.heap h'->wI X.prog X.w H h':=fun {a h'} ha hs b ob e=>by
  obtain ⟨_,_,hfree⟩:=ha;refine (I.hok b ob e).stay (fun c w' hc q=>(hs.2 c ?_).trans q) (fun _ q=>q) fun _ _ q=>q;rintro rfl;rcases hc with rfl | hc
  ·rw [hfree] at e;cases e
  ·rw [hfree] at hc;cases hc
 rcases hx with hk | hk
 ·refine wpAny_storeName_local hk hn (fun h' hn' hs=>?_) hcls;obtain ⟨oL,_,_,hoL,_⟩:=id hn;refine h _ ⟨I.ok,I.os,I.bare,⟨fun b o e n hb hx=>?_,fun b o e n hb hx=>?_,I.base.free,fun b o e hx=>?_,I.base.tups,I.base.eZ,I.base.rD⟩,⟨_,hn',fun j y v' e1 e2 e3=>?_⟩,fun y c e=>?_,I.free,I.jG,fun p hp=>?_,tracked ⟨oL,hoL,I.free⟩ hs,by simpa using I.len,I.hnd,I.tup⟩ ⟨_,hs,.inl rfl⟩
  ·exact (hs.2 b (gk (cu (cg e) I.ok.above))).trans (I.base.keep b o e n hb hx)
  ·obtain ⟨sl,e1⟩:=I.base.slot b o e n hb hx;exact ⟨sl,(hs.2 b (gk (cu (cg e) I.ok.above))).trans e1⟩
  ·obtain ⟨o',e1⟩:=I.base.there b o e hx;exact ⟨o',(hs.2 b (gk (cu (cg e) I.ok.above))).trans e1⟩
  ·by_cases hj:j=i
   ·subst hj;rw [hi] at e1;cases e1;rw [a0h hiσ] at e2;cases e2;exact ⟨u,r,.inl ⟨hk,by simp⟩⟩
   ·rw [kj (Ne.symm hj)] at e2;obtain ⟨u',r',q⟩:=hl j y v' e1 e2 e3;refine ⟨u',r',?_⟩;rcases q with ⟨k,e⟩ | ⟨k,c,e,z⟩
    ·refine .inl ⟨k,?_⟩;have:y≠x:=fun e=>hj (a8G hN e1 (e ▸ hi));simp [this,e]
    ·exact .inr ⟨k,c,e,z.sameBut hs (cne y c e)⟩
  ·obtain ⟨w',z⟩:=I.cell y c e;exact ⟨w',z.sameBut hs (cne y c e)⟩
  ·obtain ⟨e,n,ne,nf,d⟩:=I.pin p hp;exact ⟨(hs.2 p.1 ne).trans e,n,ne,nf,d⟩
 ·have hfn:X.fn x=true:=by
   rcases hf with z | z
   ·exact z
   ·rw [z] at hk;cases hk
  obtain ⟨c,hc⟩:=I.ok.has x (.inl hk);obtain ⟨w',z⟩:=I.cell x c hc;refine wpAny_storeName_cell I.ok.kind hk hc z (fun h' hc' hs=>?_);obtain ⟨oc,hoc,aDD⟩:=id z;refine h { s with heap:=h' } ⟨I.ok,I.os,I.bare,⟨fun b o e n hb hx=>?_,fun b o e n hb hx=>?_,I.base.free,fun b o e hx=>?_,I.base.tups,I.base.eZ,I.base.rD⟩,⟨m,hn.sameBut hs (Ne.symm (cne x c hc)),fun j y v' e1 e2 e3=>?_⟩,fun y c' e=>?_,I.free,I.jG,fun p hp=>?_,tracked ⟨oc,hoc,I.jG x c hc⟩ hs,by simpa using I.len,I.hnd,I.tup⟩ ⟨c,hs,.inr hc⟩
  ·exact (hs.2 b (gk (cu (cg e) (I.ok.cab x c hfn hc)))).trans (I.base.keep b o e n hb hx)
  ·obtain ⟨sl,e1⟩:=I.base.slot b o e n hb hx;exact ⟨sl,(hs.2 b (gk (cu (cg e) (I.ok.cab x c hfn hc)))).trans e1⟩
  ·obtain ⟨o',e1⟩:=I.base.there b o e hx;exact ⟨o',(hs.2 b (gk (cu (cg e) (I.ok.cab x c hfn hc)))).trans e1⟩
  ·by_cases hj:j=i
   ·subst hj;rw [hi] at e1;cases e1;rw [a0h hiσ] at e2;cases e2;exact ⟨u,r,.inr ⟨.inl hk,c,hc,hc'⟩⟩
   ·rw [kj (Ne.symm hj)] at e2;obtain ⟨u',r',q⟩:=hl j y v' e1 e2 e3;refine ⟨u',r',?_⟩;rcases q with q | ⟨k,c',e,z'⟩
    ·exact .inl q
    ·refine .inr ⟨k,c',e,z'.sameBut hs ?_⟩;rintro rfl;exact hj (a8G hN e1 (I.ok.inj _ _ _ e hc ▸ hi))
  ·by_cases hcc:c'=c
   ·subst hcc;exact ⟨_,hc'⟩
   ·obtain ⟨w2,z2⟩:=I.cell y c' e;exact ⟨w2,z2.sameBut hs hcc⟩
  ·obtain ⟨e,n,ne,nf,d⟩:=I.pin p hp;refine ⟨(hs.2 p.1 ?_).trans e,n,ne,nf,d⟩;intro q;rw [q,hoc] at e;have q':oc=p.2:=ig.inj e;exact d w' (by rw [← q'];exact aDD)
theorem a0N {M:Model} {A:Around} {E:Value->Shared->Prop} {i:Nat} {x:Str} (I:Inv X pins σ H s) (hN:X.N.Nodup) (hi:X.N[i]?=some x) (hx:Loc X.env.scope x) (r:RelV v u)
  (h:∀ s',Inv X pins (σ.set i (some v)) H s'->Q () s') (hf:X.fn x=true∨X.env.scope.names.lookup x=some .local:=by first | exact .inl rfl | exact .inr rfl | assumption):wpAny M A (storeName X.env x u) Q E s :=
 a4C I hN hi hx r (fun s' I' _=>h s' I') hf
theorem Inv.call' {s':Shared} (I:Inv X pins σ H s) (ho:s'.os=s.os) (u:Un (frs X.stack) ch H H' s.heap s'.heap) (hok:wI X.prog X.w H' s'.heap) (hg:AllBare s'.gens)
  (hch:∀ b∈ch,(b∈X.ex∨X.s₀.heap.objs.size<=b)/\b≠X.env.locals/\(∀ x c,X.env.cells.lookup x=some c->c≠b)/\∀ p∈X.pn++pins,p.1≠b):Inv X pins σ H' s':=by
 obtain ⟨h',g',d',t',o'⟩:=s';have e:o'=s.os:=ho;subst e;exact I.call (g':=g') (t':=t') (d':=d') u hok hg hch
end
abbrev XK:=Value->Option Addr->Hp->Prop
noncomputable abbrev St:=List (Option V)
abbrev VK:=V->Hp->Prop
abbrev TE:=St->Hp->VK->Prop
abbrev TT:=St->Hp->(Bool->Hp->Prop)->Prop
abbrev TA:=St->Hp->(List V->Hp->Prop)->Prop
structure Ends where
 nx:St->Hp->Prop
 rt:VK
 bk:St->Hp->Prop:=fun _ _=>False
 ct:St->Hp->Prop:=fun _ _=>False
abbrev TS:=Ends->St->Hp->Prop
def EP (X:Cx) (pins:List (Addr×Obj)) (σ:St) (Q:VK) (u:Value) (s':Shared):Prop:=∃ v H',Inv X pins σ H' s'/\RelV v u/\Q v H'
def TP (X:Cx) (pins:List (Addr×Obj)) (σ:St) (Q:Bool->Hp->Prop) (b:Bool) (s':Shared):Prop:=∃ H',Inv X pins σ H' s'/\Q b H'
def AP (X:Cx) (pins:List (Addr×Obj)) (σ:St) (Q:List V->Hp->Prop) (us:List Value) (s':Shared):Prop:=∃ vs H',Inv X pins σ H' s'/\Vals vs us/\Q vs H'
noncomputable def SP (X:Cx) (pins:List (Addr×Obj)) (D:Ends) (f:Flow) (s':Shared):Prop :=
 match f with
 | .next=>∃ σ' H',Inv X pins σ' H' s'/\D.nx σ' H'
 | .brk=>∃ σ' H',Inv X pins σ' H' s'/\D.bk σ' H'
 | .cont=>∃ σ' H',Inv X pins σ' H' s'/\D.ct σ' H'
 | .ret u=>∃ v σ' H',Inv X pins σ' H' s'/\RelV v u/\D.rt v H'
class Tk (b:Bool) (s:Shared):Prop where
 pos:b=true->0 < s.toks
class TkI (s:outParam Shared) (s':Shared):Prop where
 imp:0 < s.toks->0 < s'.toks
instance aC9 {b:Bool} {s s':Shared} [i:TkI s s'] [j:Tk b s]:Tk b s':=⟨fun z=>i.imp (j.pos z)⟩
instance aGD {s:Shared}:Tk false s:=⟨fun z=>nomatch z⟩
instance aCA {b:Bool} {h:Heap} {g:Array GenState} {d:Drawn} {n:Nat} {os}:Tk b ⟨h,g,d,n+1,os⟩:=⟨fun _=>Nat.succ_pos _⟩
instance aCB {b:Bool} {s:Shared} {h:Heap} {g:Array GenState} {d:Drawn} {os} [j:Tk b s]:Tk b ⟨h,g,d,s.toks,os⟩:=⟨j.pos⟩
noncomputable def PE (X:Cx) (e:Expr) (t:TE):Prop :=
 ∀ (pins:List (Addr×Obj)) (s:Shared) (σ:St) (H:Hp) (Q:VK),Inv X pins σ H s->t σ H Q->[Tk X.need s]->wpAny (model X.prog X.w) X.A (eval e X.env) (EP X pins σ Q) X.xe s
noncomputable def PT (X:Cx) (e:Expr) (t:TT):Prop :=
 ∀ (pins:List (Addr×Obj)) (s:Shared) (σ:St) (H:Hp) (Q:Bool->Hp->Prop),Inv X pins σ H s->t σ H Q->[Tk X.need s]->wpAny (model X.prog X.w) X.A (isTrue e X.env (eval e X.env)) (TP X pins σ Q) X.xe s
noncomputable def PW (X:Cx) (e:Expr) (t:TT):Prop :=
 ∀ (whole:Sem Value) (pins:List (Addr×Obj)) (s:Shared) (σ:St) (H:Hp) (Q:Bool->Hp->Prop),Inv X pins σ H s->t σ H Q->[Tk X.need s]->wpAny (model X.prog X.w) X.A (isTrue e X.env whole) (TP X pins σ Q) X.xe s
theorem PW.pt {X:Cx} {t:TT} (h:PW X e t):PT X e t:=h _
noncomputable def PA (X:Cx) (es:List Expr) (t:TA):Prop :=
 ∀ (pos:Pos) (pins:List (Addr×Obj)) (s:Shared) (σ:St) (H:Hp) (Q:List V->Hp->Prop),Inv X pins σ H s->t σ H Q->[Tk X.need s]->wpAny (model X.prog X.w) X.A (spliced (backTo pos (starEach es X.env))) (AP X pins σ Q) X.xe s
noncomputable def PS (X:Cx) (st:Stmt) (t:TS):Prop :=
 ∀ (pins:List (Addr×Obj)) (s:Shared) (σ:St) (H:Hp) (D:Ends),Inv X pins σ H s->t D σ H->[Tk X.need s]->wpAny (model X.prog X.w) X.A (exec st X.env) (SP X pins D) X.xe s
noncomputable def PSs (X:Cx) (st:List Stmt) (t:TS):Prop :=
 ∀ (pins:List (Addr×Obj)) (s:Shared) (σ:St) (H:Hp) (D:Ends),Inv X pins σ H s->t D σ H->[Tk X.need s]->wpAny (model X.prog X.w) X.A (execs st X.env) (SP X pins D) X.xe s
theorem cL {α:Type} {t:Sem α} {Q Q':α->Shared->Prop} {M:Model} {A:Around} {E:Value->Shared->Prop} {s:Shared} (h:wpAny M A t Q E s) (hQ:∀ a s1,Q a s1->[TkI s s1]->Q' a s1):wpAny M A t Q' E s:=fun Γ p g=>by
 by_cases c:0 < s.toks
 ·exact Sem.wp_mono M Γ t (fun a p s' z=>@hQ a s' z.2 ⟨fun _=>z.1⟩) (fun _ _ _ z=>z.2) p s (Sem.wp_toks M Γ 1 t _ _ p s c (h Γ p g))
 ·exact Sem.wp_mono M Γ t (fun a p s' z=>@hQ a s' z ⟨fun z=>absurd z c⟩) (fun _ _ _ z=>z) p s (h Γ p g)
end
variable {pins:List (Addr×Obj)}{R:V->V->Hp->Prop}{op:CmpOp}
section
variable {Q:Value->Shared->Prop}
section
variable {X:Cx}
theorem bin {a b:Expr} {ta tb:TE} (ha:PE X a ta) (hb:PE X b tb) {s:Shared} {σ:St} {H:Hp} [Tk X.need s] (I:Inv X pins σ H s) (h:ta σ H fun x H1=>tb σ H1 fun y H2=>R x y H2)
  {α:Type} {Q:α->Shared->Prop} {f:Value->Value->Sem α}
  (hf:∀ v u s2 x y H2,Inv X pins σ H2 s2->RelV x v->RelV y u->R x y H2->wpAny (model X.prog X.w) X.A (f v u) Q X.xe s2) :
  wpAny (model X.prog X.w) X.A (eval a X.env) (fun v s₁=>wpAny (model X.prog X.w) X.A (eval b X.env) (fun u s₂=>wpAny (model X.prog X.w) X.A (f v u) Q X.xe s₂) X.xe s₁) X.xe s:=by
 refine cL (ha pins s σ H _ I h) fun v s1 ⟨x,H1,I1,r1,q1⟩=>?_;refine cL (hb pins s1 σ H1 _ I1 q1) fun u s2 ⟨y,H2,I2,r2,q2⟩=>?_;exact hf v u s2 x y H2 I2 r1 r2 q2
noncomputable def ay3 (i:Nat):TE:=fun σ H Q=>∃ v,σ[i]?=some (some v)/\Q v H
noncomputable def tC (v:V):TE:=fun _ H Q=>Q v H
theorem arZ {i:Nat} {x:Str} {pos:Pos} (hN:X.N[i]?=some x) (hv:Vis X.env.scope x) (hd:(x == ("__debug__" : Str))=false:=by decide) (hcd:(x == ("__classdict__" : Str))=false:=by decide):PE X (.Name x pos) (ay3 i):=by
 intro pins s σ H Q I h _tk;obtain ⟨v,e,h⟩:=h;obtain ⟨m,hn,hl⟩:=I.loc;obtain ⟨u,r,l⟩:=hl i x v hN e hv;have fin:EP X pins σ Q u s:=⟨v,H,I,r,h⟩;rcases l with ⟨hk,hm⟩ | ⟨hk,c,hc,hcell⟩
 ·exact wpAny_Name (wpAny_loadName_local I.ok.kind hk hn hm fin) hd
 ·rcases hk with hk | hk
  ·exact wpAny_Name (wpAny_loadName_cell I.ok.kind hk hc hcell fin) hd
  ·exact wpAny_Name (wpAny_loadName_free I.ok.kind hk hc hcell fin hcd) hd
theorem as4 {i j pos}:PE X (.Constant (.int i) j pos) (tC (.int i)):=fun _ _ _ H _ I h=>wpAny_Constant_int ⟨.int i,H,I.tok _,⟨_,rfl⟩,h⟩
theorem ay4 {b j pos}:PE X (.Constant (.bool b) j pos) (tC (.bl b)):=fun _ _ _ H _ I h=>Constant_bool ⟨.bl b,H,I,rfl,h⟩
theorem as5 {j pos}:PE X (.Constant .none j pos) (tC .non):=fun _ _ _ H _ I h=>Constant_none ⟨.non,H,I,rfl,h⟩
theorem as6 {x j pos}:PE X (.Constant (.str x) j pos) (tC (.str x)):=fun _ _ _ H _ I h=>Calls.Constant_str ⟨.str x,H,I.tok _,⟨_,rfl⟩,h⟩
def Gl (X:Cx) (x:Str):Prop:=X.env.kindOf x=some .globalImplicit
theorem mY {E:Value->Shared->Prop} {s:Shared} {σ:St} {H:Hp} {x:Str} {pos:Pos} (I:Inv X pins σ H s) (hg:Gl X x) (hm:X.mg x=some u) (h:Q u s)
  (hd:(x == ("__debug__" : Str))=false:=by decide):wpAny (model X.prog X.w) X.A (eval (.Name x pos) X.env) Q E s :=
 Calls.Name_function_global I.ok.kind hg (Calls.loadGlobal_global (by rw [I.ok.glob];exact I.mod.glob.keeps I.bk) hm h) hd
theorem rG {E:Value->Shared->Prop} {s:Shared} {σ:St} {H:Hp} {x:Str} {pos:Pos} (I:Inv X pins σ H s) (hg:Gl X x) (hm:X.mg x=none) (hv:bootBuiltins x=some u) (h:Q u s)
  (hn:x ≠ "__name__" := by decide) (hd:(x == ("__debug__" : Str))=false:=by decide):wpAny (model X.prog X.w) X.A (eval (.Name x pos) X.env) Q E s:=by
 obtain ⟨mb,h1,h2⟩:=I.mod.blt;exact Calls.Name_function_global I.ok.kind hg (Calls.loadGlobal_builtin (by rw [I.ok.glob];exact I.mod.glob.keeps I.bk) hm (by rw [I.ok.blt];exact h1.keeps I.bk) ((h2 x hn).trans hv) h) hd
theorem am4 {x:Str} {pos:Pos} (hg:Gl X x) (hm:X.mg x=some u) (r:RelV v u) (hd:(x == ("__debug__" : Str))=false:=by decide):PE X (.Name x pos) (tC v) :=
 fun _ _ _ H _ I h=>mY I hg hm ⟨v,H,I,r,h⟩ hd
theorem am5 {x:Str} {pos:Pos} (hg:Gl X x) (hm:X.mg x=none) (hv:bootBuiltins x=some u) (r:RelV v u) (hn:x ≠ "__name__" := by decide) (hd:(x == ("__debug__" : Str))=false:=by decide):PE X (.Name x pos) (tC v) :=
 fun _ _ _ H _ I h=>rG I hg hm hv ⟨v,H,I,r,h⟩ hn hd
variable {a b:Expr} {ta tb:TE} {pos:Pos}
noncomputable def PC (X:Cx) (op:CmpOp) (a b:Expr) (t:TE):Prop :=
 ∀ (pins:List (Addr×Obj)) (s:Shared) (σ:St) (H:Hp) (Q:VK),Inv X pins σ H s->t σ H Q ->
  [Tk X.need s]->wpAny (model X.prog X.w) X.A (eval a X.env) (fun v s₁=>wpAny (model X.prog X.w) X.A (eval b X.env) (fun u s₂=>wpAny (model X.prog X.w) X.A (compareOp op v u) (EP X pins σ Q) X.xe s₂) X.xe s₁) X.xe s
theorem a0O (b:Expr) (h:op ≠ .In) (h2:op ≠ .NotIn):behindInMarks op b=false:=by
 have e1:(op == CmpOp.In)=false:=by cases op <;> first | rfl | exact absurd rfl h
 have e2:(op == CmpOp.NotIn)=false:=by cases op <;> first | rfl | exact absurd rfl h2
 cases b <;> simp [behindInMarks,e1,e2]
noncomputable def tB (t:TE):TT:=fun σ H Q=>t σ H fun x H1=>∃ c,x = .bl c/\Q c H1
theorem aDE {t:TE} (h:PC X op a b t) (h1:behindInMarks op b=false:=by first | exact a0O _ (by decide) (by decide) | rfl):PT X (.Compare a [op] [b] pos) (tB t):=by
 intro pins s σ H Q I hw;refine wpAny_isTrue_Compare1 (cL (h pins s σ H _ I hw) fun v s1 h1=>cL h1 fun u s2 h2=>cL h2 fun c s3 ⟨x,H1,I1,r1,q1⟩=>?_) h1;obtain ⟨d,rfl,q⟩:=q1;cases r1;exact wpAny_truthy_bool ⟨H1,I1,q⟩
theorem as7 {t:TE} (h:PE X e t) (he:∀ whole,isTrue e X.env whole=(do let v ← whole;standAt e.pos;holding [v] (truthy v)):=by intro _;rfl):PT X e (tB t):=by
 intro pins s σ H Q I hw;refine isTrue_plain (cL (h pins s σ H _ I hw) fun v s1 ⟨x,H1,I1,r1,q1⟩=>?_) (he _);obtain ⟨d,rfl,q⟩:=q1;cases r1;exact wpAny_truthy_bool ⟨H1,I1,q⟩
variable {tA tB':TT} {rest:List Expr}
noncomputable def ay5 (t u:TT):TT:=fun σ H Q=>t σ H fun c H1=>if c=true then u σ H1 Q else Q false H1
noncomputable def tOr (t u:TT):TT:=fun σ H Q=>t σ H fun c H1=>if c=true then Q true H1 else u σ H1 Q
noncomputable def aDF (t:TT):TT:=fun σ H Q=>t σ H fun c H1=>Q (!c) H1
theorem am6 (ha:PT X a tA):PW X (.BoolOp .And [a] pos) tA:=by
 intro wh pins s σ H Q I h;refine isTrue_and (cL (ha pins s σ H Q I h) fun c s1 e=>?_);intro ay6;cases c with
 | true=>exact isTrue_and_nil e
 | false=>exact e
theorem as8 (ha:PT X a tA):PW X (.BoolOp .Or [a] pos) tA:=by
 intro wh pins s σ H Q I h;refine isTrue_or (cL (ha pins s σ H Q I h) fun c s1 e=>?_);intro aHZ;cases c with
 | false=>exact isTrue_or_nil e
 | true=>exact e
theorem as9 (ha:PT X a tA) (hb:PW X (.BoolOp .And (b :: rest) pos) tB'):PW X (.BoolOp .And (a :: b :: rest) pos) (ay5 tA tB'):=by
 intro wh pins s σ H Q I h;refine isTrue_and (cL (ha pins s σ H _ I h) fun c s1 ⟨H1,I1,q1⟩=>?_);cases c with
 | true=>exact hb wh pins s1 σ H1 Q I1 q1
 | false=>exact ⟨H1,I1,q1⟩
theorem ay7 (ha:PT X a tA) (hb:PW X (.BoolOp .Or (b :: rest) pos) tB'):PW X (.BoolOp .Or (a :: b :: rest) pos) (tOr tA tB'):=by
 intro wh pins s σ H Q I h;refine isTrue_or (cL (ha pins s σ H _ I h) fun c s1 ⟨H1,I1,q1⟩=>?_);cases c with
 | true=>exact ⟨H1,I1,q1⟩
 | false=>exact hb wh pins s1 σ H1 Q I1 q1
theorem asA (ha:PT X a tA):PT X (.UnaryOp .Not a pos) (aDF tA):=by
 intro pins s σ H Q I h _tk;exact isTrue_not (ha pins s σ H (fun c H1=>Q (!c) H1) I h)
noncomputable def ay8 (ta tb:TE):TE:=fun σ H Q=>ta σ H fun x H1=>∃ c,x = .bl c/\if c=true then tb σ H1 Q else Q (.bl false) H1
noncomputable def aDG (ta tb:TE):TE:=fun σ H Q=>ta σ H fun x H1=>∃ c,x = .bl c/\if c=true then Q (.bl true) H1 else tb σ H1 Q
noncomputable def ay9 (ta:TE):TE:=fun σ H Q=>ta σ H fun x H1=>∃ c,x = .bl c/\Q (.bl (!c)) H1
theorem asB {op} {t:TE} (h:PE X a t):PE X (.BoolOp op [a] pos) t:=fun pins s σ H Q I hw=>BoolOp_one (h pins s σ H Q I hw)
theorem asC (ha:PE X a ta) (hb:PE X (.BoolOp .And (b :: rest) pos) tb):PE X (.BoolOp .And (a :: b :: rest) pos) (ay8 ta tb):=by
 intro pins s σ H Q I h _tk;refine BoolOp_and (cL (ha pins s σ H _ I h) fun v s1 ⟨x,H1,I1,r1,q1⟩=>?_);obtain ⟨c,rfl,q1⟩:=q1;cases r1;refine wpAny_truthy_bool ?_;cases c with
 | true=>exact hb pins s1 σ H1 Q I1 q1
 | false=>exact ⟨.bl false,H1,I1,rfl,q1⟩
theorem ayA (ha:PE X a ta) (hb:PE X (.BoolOp .Or (b :: rest) pos) tb):PE X (.BoolOp .Or (a :: b :: rest) pos) (aDG ta tb):=by
 intro pins s σ H Q I h _tk;refine BoolOp_or (cL (ha pins s σ H _ I h) fun v s1 ⟨x,H1,I1,r1,q1⟩=>?_);obtain ⟨c,rfl,q1⟩:=q1;cases r1;refine wpAny_truthy_bool ?_;cases c with
 | false=>exact hb pins s1 σ H1 Q I1 q1
 | true=>exact ⟨.bl true,H1,I1,rfl,q1⟩
theorem asD (ha:PE X a ta):PE X (.UnaryOp .Not a pos) (ay9 ta):=by
 intro pins s σ H Q I h _tk;refine UnaryOp_ (cL (ha pins s σ H _ I h) fun v s1 ⟨x,H1,I1,r1,q1⟩=>?_);obtain ⟨c,rfl,q1⟩:=q1;cases r1;exact not_of (wpAny_truthy_bool ⟨.bl (!c),H1,I1,rfl,q1⟩)
noncomputable def tIf (t:TT) (ta tb:TE):TE:=fun σ H Q=>t σ H fun c H1=>if c=true then ta σ H1 Q else tb σ H1 Q
theorem agR {c:Expr} (hc:PT X c tA) (ha:PE X a ta) (hb:PE X b tb):PE X (.IfExp c a b pos) (tIf tA ta tb):=by
 intro pins s σ H Q I h _tk;refine wpAny_IfExp (cL (hc pins s σ H _ I h) fun d s1 ⟨H1,I1,q1⟩=>?_);cases d with
 | true=>exact ha pins s1 σ H1 Q I1 q1
 | false=>exact hb pins s1 σ H1 Q I1 q1
end
end
variable {X:Cx}{es:List Expr}{tg:Expr}{te:TE}{cm:Bool}{tl:List (Addr×List V)}
section
noncomputable def rF (K:bw) (H:Hp) (a:Addr) (xs:List V):Prop :=
 Rd H a (.lst xs) ∨
  ∃ (o:Obj) (its:Array Value) (n:Nat),K.lookup a=some o/\o.cls = .type "list" /\ o.dict=none/\o.data = .seq its n/\its.size<=sizeLine/\Vals xs its.toList
noncomputable def qQ (K:bw) (H:Hp) (a:Addr) (xs:List V):Prop :=
 Rd H a (.tup xs) ∨
  ∃ (o:Obj) (its:Array Value) (n:Nat),K.lookup a=some o/\o.cls = .type "tuple" /\ o.dict=none/\o.data = .seq its n/\its.size<=sizeLine/\Vals xs its.toList
noncomputable def aDH:Value->Option V
 | .none=>some .non
 | .bool b=>some (.bl b)
 | .int i _=>some (.int i)
 | .str x _=>some (.str x)
 | .bytes b _=>some (.byt b)
 | .float b _=>some (.flt b)
 | .ref a=>some (.ref a)
 | .type n=>some (.ty n)
 | _=>none
theorem RelV.abs {x:V} (r:RelV x u):aDH u=some x:=by
 cases x with
 | non=>cases r;rfl
 | bl _=>cases r;rfl
 | int _=>obtain ⟨t,rfl⟩:=r;rfl
 | str _=>obtain ⟨t,rfl⟩:=r;rfl
 | byt _=>obtain ⟨t,rfl⟩:=r;rfl
 | flt _=>obtain ⟨t,rfl⟩:=r;rfl
 | ref _=>cases r;rfl
 | ty _=>cases r;rfl
theorem RelV.inj {x y:V} {u:Value} (r:RelV x u) (q:RelV y u):x=y:=ig.inj (r.abs.symm.trans q.abs)
theorem Vals.inj:∀ {xs ys:List V} {us:List Value},Vals xs us->Vals ys us->xs=ys
 | _,_,_,.nil,.nil=>rfl
 | _,_,_,.cons r t,.cons r' t'=>by rw [r.inj r',Vals.inj t t']
section
variable {X:Cx} {pins:List (Addr×Obj)} {σ:St} {H:Hp} {s:Shared} {a:Addr} {xs ys:List V}
theorem rF.of {K:bw} (h:H a=some (.lst xs)):rF K H a xs := .inl (.inl h)
theorem qQ.of {K:bw} (h:H a=some (.tup xs)):qQ K H a xs := .inl (.inl h)
theorem Inv.list (I:Inv X pins σ H s) (h:rF X.K H a xs):∃ its:List Value,Vals xs its/\PlainL s.heap a its.toArray/\xs.length<=sizeLine:=by
 rcases h with h | ⟨o,its,n,hk,hc,hd,hs,hz,r⟩
 ·obtain ⟨z,its,n,r,e⟩:=h.ok I.hok;exact ⟨its,r,⟨_,n,e,rfl,rfl,rfl⟩,z⟩
 ·refine ⟨its.toList,r,⟨o,n,I.kIn a o hk,hc,hd,by simpa using hs⟩,?_⟩;have e:=r.length;simp only [pq] at e;omega
theorem Inv.tuple (I:Inv X pins σ H s) (h:qQ X.K H a xs):∃ its:List Value,Vals xs its/\IsTup s.heap a its.toArray/\xs.length<=sizeLine:=by
 rcases h with h | ⟨o,its,n,hk,hc,hd,hs,hz,r⟩
 ·obtain ⟨z,its,r,p⟩:=h.ok I.hok;exact ⟨its,r,p,z⟩
 ·refine ⟨its.toList,r,⟨o,I.kIn a o hk,hc,n,by simpa using hs⟩,?_⟩;have e:=r.length;simp only [pq] at e;omega
theorem Inv.a8H (I:Inv X pins σ H s) (h:rF X.K H a xs) (h':rF X.K H a ys):xs=ys:=by
 obtain ⟨its,r,⟨o,n,e,_,_,d⟩,_⟩:=I.list h;obtain ⟨its',r',⟨o',n',e',_,_,d'⟩,_⟩:=I.list h';rw [e] at e';cases e';rw [d] at d';injection d' with d1 _;have:its=its':=by simpa using congrArg Array.toList d1
 subst this;exact r.inj r'
theorem Inv.yK (I:Inv X pins σ H s) (h:qQ X.K H a xs) (h':qQ X.K H a ys):xs=ys:=by
 obtain ⟨its,r,⟨o,e,_,n,d⟩,_⟩:=I.tuple h;obtain ⟨its',r',⟨o',e',_,n',d'⟩,_⟩:=I.tuple h';rw [e] at e';cases e';rw [d] at d';injection d' with d1 _;have:its=its':=by simpa using congrArg Array.toList d1
 subst this;exact r.inj r'
end
noncomputable abbrev Cx.wish (X:Cx) (E:Value->Shared->Prop):Cx:={ X with xe:=E }
noncomputable abbrev Cx.nox (X:Cx):Cx:=X.wish fun _ _=>False
theorem Cx.Ok.wish (ok:X.Ok) (E:Value->Shared->Prop):(X.wish E).Ok :=
 ⟨ok.mod,ok.kind,ok.glob,ok.blt,ok.above,ok.inj,ok.has,ok.cab,ok.hd,ok.frames,ok.stk,ok.exf,ok.bs,ok.bsz,ok.a3E,ok.a5R,ok.nU,ok.frf⟩
theorem Cx.Ok.nW {E:Value->Shared->Prop} (ok:(X.wish E).Ok):X.Ok :=
 ⟨ok.mod,ok.kind,ok.glob,ok.blt,ok.above,ok.inj,ok.has,ok.cab,ok.hd,ok.frames,ok.stk,ok.exf,ok.bs,ok.bsz,ok.a3E,ok.a5R,ok.nU,ok.frf⟩
section
variable {X:Cx} {pins:List (Addr×Obj)} {σ:St} {H:Hp} {s:Shared} {E:Value->Shared->Prop}
theorem Inv.wish (I:Inv X pins σ H s) (E:Value->Shared->Prop):Inv (X.wish E) pins σ H s:=⟨I.ok.wish E,I.os,I.bare,I.base,I.loc,I.cell,I.free,I.jG,I.pin,I.hok,I.len,I.hnd,I.tup⟩
theorem Inv.nW (I:Inv (X.wish E) pins σ H s):Inv X pins σ H s:=⟨I.ok.nW,I.os,I.bare,I.base,I.loc,I.cell,I.free,I.jG,I.pin,I.hok,I.len,I.hnd,I.tup⟩
theorem SP.nW {D:Ends} {f:Flow} {s':Shared} (h:SP (X.wish E) pins D f s'):SP X pins D f s':=by
 cases f with
 | next=>obtain ⟨σ',H',I,q⟩:=h;exact ⟨σ',H',I.nW,q⟩
 | brk=>obtain ⟨σ',H',I,q⟩:=h;exact ⟨σ',H',I.nW,q⟩
 | cont=>obtain ⟨σ',H',I,q⟩:=h;exact ⟨σ',H',I.nW,q⟩
 | ret u=>obtain ⟨v,σ',H',I,r,q⟩:=h;exact ⟨v,σ',H',I.nW,r,q⟩
theorem PE.nox {t:TE} (h:PE X.nox e t):PE X e t:=fun pins s σ H Q I hw =>
 wpAny_mono (h pins s σ H Q (I.wish _) hw) (fun _ _ ⟨v,H',I',r,q⟩=>⟨v,H',I'.nW,r,q⟩) fun _ _ z=>False.elim z
theorem PT.nox {t:TT} (h:PT X.nox e t):PT X e t:=fun pins s σ H Q I hw =>
 wpAny_mono (h pins s σ H Q (I.wish _) hw) (fun _ _ ⟨H',I',q⟩=>⟨H',I'.nW,q⟩) fun _ _ z=>False.elim z
theorem PSs.nox {st:List Stmt} {t:TS} (h:PSs X.nox st t):PSs X st t:=fun pins s σ H D I hw =>
 wpAny_mono (h pins s σ H D (I.wish _) hw) (fun _ _ q=>q.nW) fun _ _ z=>False.elim z
end
section
variable {X:Cx} {st:Stmt} {rest:List Stmt} {t u:TS} {e:Expr} {te:TE} {pos:Pos}
noncomputable def aq7:TS:=fun D σ H=>D.nx σ H
noncomputable def asF (t u:TS):TS:=fun D σ H=>t { D with nx:=u D } σ H
theorem am7:PSs X [] aq7:=fun _ _ σ H _ I h=>wpAny_execs_nil ⟨σ,H,I,h⟩
theorem agS (h1:PS X st t) (h2:PSs X rest u):PSs X (st :: rest) (asF t u):=by
 intro pins s σ H D I h _tk;refine wpAny_execs_cons (cL (h1 pins s σ H { D with nx:=u D } I h) fun f s1 q=>?_);intro aI1;cases f with
 | next =>
  obtain ⟨σ',H',I',q⟩:=q;exact h2 pins s1 σ' H' D I' q
 | ret v=>exact q
 | brk=>exact q
 | cont=>exact q
theorem am8 (h1:PS X st t):PSs X [st] t:=by
 intro pins s σ H D I h _tk;refine wpAny_execs_cons (cL (h1 pins s σ H D I h) fun f s1 q=>?_);intro aI2;cases f with
 | next=>exact wpAny_execs_nil q
 | ret v=>exact q
 | brk=>exact q
 | cont=>exact q
theorem am9:PS X (.Pass pos) aq7:=fun _ _ σ H _ I h=>wpAny_Pass ⟨σ,H,I,h⟩
theorem Inv.quiet {σ:St} {H:Hp} {s:Shared} (I:Inv X pins σ H s):interactive X.env=false:=by simp [interactive,I.ok.kind]
noncomputable def ayB (te:TE):TS:=fun D σ H=>te σ H fun _ H1=>D.nx σ H1
theorem amA (he:PE X e te) (hs:swapsWith e none pos.line X.env=pure false:=by rfl):PS X (.Expr e pos) (ayB te):=by
 intro pins s σ H D I h _tk;exact wpAny_Expr_any (cL (he pins s σ H _ I h) fun v s1 ⟨x,H1,I1,r1,q1⟩=>⟨σ,H1,I1,q1⟩) I.quiet hs
noncomputable def aDI (te:TE):TS:=fun D σ H=>te σ H D.rt
theorem asG (he:PE X e te):PS X (.Return (some e) pos) (aDI te):=by
 intro pins s σ H D I h _tk;exact wpAny_Return_some (cL (he pins s σ H _ I h) fun v s1 ⟨x,H1,I1,r1,q1⟩=>⟨x,σ,H1,I1,r1,q1⟩)
noncomputable def aDJ (c:TT) (t u:TS):TS:=fun D σ H=>c σ H fun b H1=>if b=true then t D σ H1 else u D σ H1
theorem ayC {c:Expr} {a b:List Stmt} {tc:TT} (hc:PT X c tc) (ha:PSs X a t) (hb:PSs X b u):PS X (.If c a b pos) (aDJ tc t u):=by
 intro pins s σ H D I h _tk;refine wpAny_If (cL (hc pins s σ H _ I h) fun d s1 ⟨H1,I1,q1⟩=>?_);cases d with
 | true=>exact ha pins s1 σ H1 D I1 q1
 | false=>exact hb pins s1 σ H1 D I1 q1
end
abbrev TG:=V->St->Hp->(St->Hp->Prop)->Prop
abbrev TGs:=List V->St->Hp->(St->Hp->Prop)->Prop
noncomputable def PG (X:Cx) (target:Expr) (t:TG):Prop :=
 ∀ (pins:List (Addr×Obj)) (s:Shared) (σ:St) (H:Hp) (v:V) (u:Value) (Q:St->Hp->Prop),Inv X pins σ H s->RelV v u->t v σ H Q ->
  [Tk X.need s]->wpAny (model X.prog X.w) X.A (assign target X.env u) (fun _ s'=>∃ σ' H',Inv X pins σ' H' s'/\Q σ' H') X.xe s
noncomputable def PGs (X:Cx) (ts:List Expr) (t:TGs):Prop :=
 ∀ (pins:List (Addr×Obj)) (s:Shared) (σ:St) (H:Hp) (vs:List V) (us:List Value) (Q:St->Hp->Prop),Inv X pins σ H s->Vals vs us->t vs σ H Q ->
  [Tk X.need s]->wpAny (model X.prog X.w) X.A (assignInOrder ((assignEach ts X.env).map (·.2)) us) (fun _ s'=>∃ σ' H',Inv X pins σ' H' s'/\Q σ' H') X.xe s
abbrev agT:=V->V->V->Hp->(Hp->Prop)->Prop
noncomputable def asH (X:Cx) (t:agT):Prop :=
 ∀ (pins:List (Addr×Obj)) (s:Shared) (σ:St) (H:Hp) (o i v:V) (ov iv u:Value) (Q:Hp->Prop),Inv X pins σ H s->RelV o ov->RelV i iv->RelV v u->t o i v H Q ->
  wpAny (model X.prog X.w) X.A (setItem ov iv u) (fun _ s'=>∃ H',Inv X pins σ H' s'/\Q H') X.xe s
abbrev TIp:=V->V->Hp->VK->Prop
noncomputable def PIp (X:Cx) (op:Operator) (t:TIp):Prop :=
 ∀ (pins:List (Addr×Obj)) (s:Shared) (σ:St) (H:Hp) (x y:V) (v u:Value) (Q:VK),Inv X pins σ H s->RelV x v->RelV y u->t x y H Q ->
  wpAny (model X.prog X.w) X.A (inplaceOp op v u) (EP X pins σ Q) X.xe s
variable {op:Operator}
section
variable {X:Cx} {pos:Pos}
noncomputable def acN (i:Nat):TG:=fun v σ H Q=>Q (σ.set i (some v)) H
theorem a5T {i:Nat} {x:Str} (hN:X.N.Nodup) (hi:X.N[i]?=some x) (hx:Loc X.env.scope x) (hf:X.fn x=true∨X.env.scope.names.lookup x=some .local:=by first | exact .inl rfl | exact .inr rfl | assumption):PG X (.Name x pos) (acN i):=by
 intro pins s σ H v u Q I r h;exact wpAny_assign_Name (a0N I hN hi hx r (fun s' I'=>⟨_,H,I',h⟩) hf)
noncomputable def ayF:TGs:=fun vs σ H Q=>vs=[]/\Q σ H
noncomputable def aq9 (t:TG) (u:TGs):TGs:=fun vs σ H Q=>∃ v r,vs=v :: r/\t v σ H fun σ' H'=>u r σ' H' Q
theorem amB:PGs X [] ayF:=by
 intro pins s σ H vs us Q I r h;obtain ⟨e,h⟩:=h;subst e;cases r;exact assignInOrder_nil ⟨σ,H,I,h⟩
theorem agU {t:TG} {u:TGs} (h1:PG X e t) (h2:PGs X es u)
  (hs:(assignEach (e :: es) X.env).map (·.2)=assign e X.env :: (assignEach es X.env).map (·.2):=by rfl):PGs X (e :: es) (aq9 t u):=by
 intro pins s σ H vs us Q I r h;obtain ⟨v,vr,e1,h⟩:=h;subst e1;cases r with
 | cons r rr =>
  rw [hs];refine assignInOrder_cons (cL (h1 pins s σ H _ _ _ I r h) fun _ s1 ⟨σ1,H1,I1,q1⟩=>?_);exact h2 pins s1 σ1 H1 _ _ Q I1 rr q1
noncomputable def aDK (K:bw) (n:Nat) (t:TGs):TG:=fun v σ H Q=>∃ a xs,v = .ref a/\qQ K H a xs/\xs.length=n/\t xs σ H Q
theorem agV {k:Nat} {t:TGs} {n:Nat} (hc:X.calm=true) (h:PGs X es t)
  (hn:(assignEach es X.env).length=n:=by rfl) (hst:(assignEach es X.env).findIdx? (·.1)=none:=by rfl):PG X (.Tuple es k pos) (aDK X.K n t):=by
 intro pins s σ H v u Q I r hw;obtain ⟨a,xs,e1,hq,hl,hw⟩:=hw;subst e1;cases r;obtain ⟨its,rv,ht,hz⟩:=I.tuple hq;refine assign_Tuple_tuple (I.ok.hd hc) ht (by simp [hn,← hl,rv.length]) hst fun h' hx=>?_;have I1:Inv X pins σ H { s with heap:=h' }:=I.kept (t':=s.toks) fun b o e=>hx b o (gk (cg e)) e;exact h pins _ σ H xs _ Q I1 (by simpa using rv) hw
noncomputable def aDL (to ti:TE) (t:agT):TG:=fun v σ H Q=>to σ H fun o H1=>ti σ H1 fun i H2=>t o i v H2 fun H3=>Q σ H3
theorem asI {o i:Expr} {to ti:TE} {t:agT} (ho:PE X o to) (hi:PE X i ti) (hs:asH X t)
  (ha:∀ v,assign (.Subscript o i pos) X.env v=(do
   let ov ← holding [v] (eval o X.env)
   let iv ← holding [v,ov] (eval i X.env)
   standAt pos
   holding [v,ov,iv] (setItem ov iv v)
   release [v,ov,iv] []):=by intro _;rfl):PG X (.Subscript o i pos) (aDL to ti t):=by
 intro pins s σ H v u Q I r h;rw [ha];refine aj (wpAny_holding (cL (ho pins s σ H _ I h) fun ov s1 ⟨x,H1,I1,r1,q1⟩=>?_));refine aj (wpAny_holding (cL (hi pins s1 σ H1 _ I1 q1) fun iv s2 ⟨y,H2,I2,r2,q2⟩=>?_));refine aj (wpAny_standAt (aj (wpAny_holding (cL (hs pins s2 σ H2 x y v ov iv u _ I2 r1 r2 r q2) fun _ s3 ⟨H3,I3,q3⟩=>?_))));exact wpAny_release ⟨σ,H3,I3,q3⟩
noncomputable def ayG (te:TE) (g:TG):TS:=fun D σ H=>te σ H fun x H1=>g x σ H1 D.nx
theorem agW {g:TG} (he:PE X e te) (hg:PG X tg g) (hs:swapsWithSole [tg] e pos.line X.env=pure false:=by rfl) (hw:swappedStores [tg] e X.env=pure none:=by rfl)
  (h1:(assignEach [tg] X.env).map (·.2)=[assign tg X.env]:=by rfl):PS X (.Assign [tg] e pos) (ayG te g):=by
 intro pins s σ H D I h _tk;refine wpAny_Assign_stores (cL (he pins s σ H _ I h) fun v s1 ⟨x,H1,I1,r1,q1⟩=>?_) hs hw;rw [h1];exact cL (hg pins s1 σ H1 x v _ I1 r1 q1) fun _ s2 q=>q
theorem asJ {i:Nat} {x:Str} {pos':Pos} (hN:X.N.Nodup) (hi:X.N[i]?=some x) (hx:Loc X.env.scope x) (he:PE X e te) (hs:swapsWith e (some (.Name x pos')) pos.line X.env=pure false:=by rfl) (hf:X.fn x=true∨X.env.scope.names.lookup x=some .local:=by first | exact .inl rfl | exact .inr rfl | assumption) :
  PS X (.Assign [.Name x pos'] e pos) (ayG te (acN i)):=by
 intro pins s σ H D I h _tk;refine wpAny_Assign_Name (cL (he pins s σ H _ I h) fun v s1 ⟨y,H1,I1,r1,q1⟩=>?_) hs;exact a0N I1 hN hi hx r1 (fun s2 I2=>⟨_,H1,I2,q1⟩) hf
noncomputable def aDM (i:Nat) (te:TE) (ti:TIp):TS:=fun D σ H=>∃ x,σ[i]?=some (some x)/\te σ H fun y H1=>ti x y H1 fun z H2=>D.nx (σ.set i (some z)) H2
theorem asK {i:Nat} {x:Str} {ti:TIp} {pos':Pos} (hN:X.N.Nodup) (hi:X.N[i]?=some x) (hx:Loc X.env.scope x) (he:PE X e te) (ho:PIp X op ti) (hf:X.fn x=true∨X.env.scope.names.lookup x=some .local:=by first | exact .inl rfl | exact .inr rfl | assumption) :
  PS X (.AugAssign (.Name x pos') op e pos) (aDM i te ti):=by
 intro pins s σ H D I h _tk;obtain ⟨v,e1,h⟩:=h;obtain ⟨m,hn,hl⟩:=I.loc;have vis:Vis X.env.scope x:=by rcases hx with k | k;exact .inl k;exact .inr (.inl k)
 obtain ⟨u,r,l⟩:=hl i x v hi e1 vis;refine wpAny_AugAssign_Name ?_
 have go:wpAny (model X.prog X.w) X.A (eval e X.env) (fun w s₂=>wpAny (model X.prog X.w) X.A (inplaceOp op u w) (fun r s₃=>wpAny (model X.prog X.w) X.A (storeName X.env x r) (fun _=>SP X pins D .next) X.xe s₃) X.xe s₂) X.xe s:=by
  refine cL (he pins s σ H _ I h) fun w s1 ⟨y,H1,I1,r1,q1⟩=>?_;refine cL (ho pins s1 σ H1 v y u w _ I1 r r1 q1) fun z s2 ⟨zv,H2,I2,r2,q2⟩=>?_;exact a0N I2 hN hi hx r2 (fun s3 I3=>⟨_,H2,I3,q2⟩) hf
 rcases l with ⟨hk,hm⟩ | ⟨hk,c,hc,hcell⟩
 ·exact wpAny_loadName_local I.ok.kind hk hn hm go
 ·rcases hk with hk | hk
  ·exact wpAny_loadName_cell I.ok.kind hk hc hcell go
  ·rcases hx with k | k
   ·have:X.env.scope.names.lookup x=some .free:=hk;rw [k] at this;cases this
   ·have:X.env.scope.names.lookup x=some .free:=hk;rw [k] at this;cases this
noncomputable def ayH (to ti te:TE) (amC:V->V->Hp->VK->Prop) (tip:TIp) (amD:agT):TS:=fun D σ H=>to σ H fun o H1=>ti σ H1 fun i H2=>amC o i H2 fun x H3=>te σ H3 fun y H4=>tip x y H4 fun z H5=>amD o i z H5 fun H6=>D.nx σ H6
noncomputable def ayI (X:Cx) (t:V->V->Hp->VK->Prop):Prop :=
 ∀ (pins:List (Addr×Obj)) (s:Shared) (σ:St) (H:Hp) (o i:V) (ov iv:Value) (Q:VK),Inv X pins σ H s->RelV o ov->RelV i iv->t o i H Q ->
  wpAny (model X.prog X.w) X.A (getItem ov iv) (EP X pins σ Q) X.xe s
theorem amE {o i:Expr} {to ti:TE} {amC:V->V->Hp->VK->Prop} {tip:TIp} {amD:agT} {tpos:Pos} (ho:PE X o to) (hi:PE X i ti) (hg:ayI X amC) (he:PE X e te) (hp:PIp X op tip) (hs:asH X amD)
  (ha:∀ ov iv new,augStore i ov iv new=(do holding [new,ov,iv] (setItem ov iv new);release [new,ov,iv] [];pure .next):=by intros;rfl):PS X (.AugAssign (.Subscript o i tpos) op e pos) (ayH to ti te amC tip amD):=by
 intro pins s σ H D I h _tk;refine wpAny_AugAssign_SubscriptAny (cL (ho pins s σ H _ I h) fun ov s1 ⟨x1,H1,I1,r1,q1⟩=>?_) ha;refine cL (hi pins s1 σ H1 _ I1 q1) fun iv s2 ⟨x2,H2,I2,r2,q2⟩=>?_;refine cL (hg pins s2 σ H2 x1 x2 ov iv _ I2 r1 r2 q2) fun old s3 ⟨x3,H3,I3,r3,q3⟩=>?_;refine cL (he pins s3 σ H3 _ I3 q3) fun v s4 ⟨x4,H4,I4,r4,q4⟩=>?_;refine cL (hp pins s4 σ H4 x3 x4 old v _ I4 r3 r4 q4) fun new s5 ⟨x5,H5,I5,r5,q5⟩=>?_;exact cL (hs pins s5 σ H5 x1 x2 x5 ov iv new _ I5 r1 r2 r5 q5) fun _ s6 ⟨H6,I6,q6⟩=>⟨σ,H6,I6,q6⟩
noncomputable def ipI (f:Int->Int->Int):TIp:=fun x y H Q=>∃ i j,x = .int i/\y = .int j/\Q (.int (f i j)) H
theorem asL:PIp X .Add (ipI fun i j=>i+j):=by
 intro pins s σ H x y v u Q I r1 r2 h;obtain ⟨i,j,e1,e2,q⟩:=h;subst e1;subst e2;obtain ⟨t,rfl⟩:=r1;obtain ⟨t',rfl⟩:=r2;exact iadd_int ⟨.int _,H,I.tok _,⟨_,rfl⟩,q⟩
theorem asM:PIp X .Sub (ipI fun i j=>i - j):=by
 intro pins s σ H x y v u Q I r1 r2 h;obtain ⟨i,j,e1,e2,q⟩:=h;subst e1;subst e2;obtain ⟨t,rfl⟩:=r1;obtain ⟨t',rfl⟩:=r2;exact isub_int ⟨.int _,H,I.tok _,⟨_,rfl⟩,q⟩
end
section
variable {X:Cx} {pos:Pos}
end
structure It where
 go:Nat->Hp->Prop
 yld:Nat->Hp->V->Hp->Prop
 stop:Nat->Hp->Prop
noncomputable def j8 (X:Cx) (pins:List (Addr×Obj)) (H:Hp) (b:Addr):Prop :=
 H b=none/\b≠X.env.locals/\b ∉ X.fs/\(b∈X.ex∨X.s₀.heap.objs.size<=b)/\(∀ x c,X.env.cells.lookup x=some c->c≠b)/\∀ p∈X.pn++pins,p.1≠b
theorem Inv.yL {σ:St} {H H':Hp} {s:Shared} {b:Addr} (I:Inv X pins σ H s) (hb:s.heap.objs.size<=b) (hn:H' b=none):j8 X pins H' b:=by
 refine ⟨hn,yq (cu I.lt hb),I.aDC hb,.inr (ju I.sz hb),fun x c e z=>?_,fun p hp z=>?_⟩
 ·obtain ⟨v,q⟩:=I.cell x c e;exact absurd (cu q.lt (by rw [z];exact hb)) (jq _)
 ·exact absurd (cu (cg (I.pin p hp).1) (by rw [z];exact hb)) (jq _)
structure Turn (cm:Bool) (tl:List (Addr×List V)) (P:Program) (w:World) (K:bw) (tg:Expr) (J:It) (fp:List Addr) (it:Addr) (tn:Nat->Heap->Prop):Prop where
 mem:it∈fp
 obj:∀ i h,tn i h->∀ b∈fp,∃ o,h.get? b=some o/\∀ v,o.data ≠ .cell v
 keep:∀ i h h',tn i h->(∀ b∈fp,∀ o,h.get? b=some o->h'.get? b=some o)->tn i h'
 item:∀ (X:Cx),X.prog=P->X.w=w->X.K=K->(cm=true->X.calm=true)->(∀ p∈tl,p∈X.tp)->∀ (i:Nat) (pins:List (Addr×Obj)) (s:Shared) (σ:St) (H:Hp) (E:Value->Shared->Prop),Inv X pins σ H s->(∀ b∈fp,j8 X pins H b)->tn i s.heap->J.go i H ->
  wpAny (model P w) X.A (pyNext (.ref it)) (fun r s1=>∃ u,r=some u /\
   wpAny (model P w) X.A (letOwnedTupleGo tg (.ref it) u) (fun _ s2=>∃ x H',Inv X pins σ H' s2/\RelV x u/\J.yld i H x H'/\tn (i+1) s2.heap/\∀ b∈fp,H' b=none) E s1) E s
 done:∀ (X:Cx),X.prog=P->X.w=w->X.K=K->(cm=true->X.calm=true)->(∀ p∈tl,p∈X.tp)->∀ (i:Nat) (pins:List (Addr×Obj)) (s:Shared) (σ:St) (H:Hp) (E:Value->Shared->Prop),Inv X pins σ H s->(∀ b∈fp,j8 X pins H b)->tn i s.heap->J.stop i H ->
  wpAny (model P w) X.A (pyNext (.ref it)) (fun r s1=>r=none/\Inv X pins σ H s1) E s
 self:∀ (A:Around) (i:Nat) (s:Shared) (Q:Value->Shared->Prop) (E:Value->Shared->Prop),tn i s.heap->Q (.ref it) s->wpAny (model P w) A (pyIter (.ref it)) Q E s
abbrev TI:=St->Hp->(It->Hp->Prop)->Prop
noncomputable def PIE (X:Cx) (pins:List (Addr×Obj)) (σ:St) (tg:Expr) (R:It->Hp->Prop) (itv:Value) (s2:Shared):Prop :=
 ∃ (it:Addr) (fp:List Addr) (tn:Nat->Heap->Prop) (J:It) (H':Hp),itv = .ref it/\Inv X pins σ H' s2/\Turn X.calm X.tp X.prog X.w X.K tg J fp it tn/\tn 0 s2.heap/\(∀ b∈fp,j8 X pins H' b)/\R J H'
noncomputable def PI (X:Cx) (tg iter:Expr) (wi:TI):Prop :=
 ∀ (pins:List (Addr×Obj)) (s:Shared) (σ:St) (H:Hp) (R:It->Hp->Prop),Inv X pins σ H s->wi σ H R ->
  [Tk X.need s]->wpAny (model X.prog X.w) X.A (eval iter X.env) (fun v s1=>wpAny (model X.prog X.w) X.A (pyIter v) (PIE X pins σ tg R) X.xe s1) X.xe s
theorem a8I {M:Model} {A:Around} {E:Value->Shared->Prop} {s:Shared} {o:Obj} {n:String} (ho:s.heap.get? it=some o) (hc:o.cls = .type n) (hd:o.data = .fields vs)
  (hn:["enumerate", "zip", "dict_itemiterator", "dict_reverseitemiterator", "odict_iterator", "itertools.zip_longest", "itertools.pairwise"].contains n=false) (hQ:Q () s):wpAny M A (letOwnedTupleGo tg (.ref it) u) Q E s:=by
 unfold letOwnedTupleGo
 cases tg <;> first
  | exact bh hQ
  | (cases u <;> first
    | exact bh hQ
    | (refine aj (wpAny_load ho ?_)
       rw [hc,hd];show wpAny M A (if (["enumerate", "zip", "dict_itemiterator", "dict_reverseitemiterator", "odict_iterator", "itertools.zip_longest", "itertools.pairwise"].contains n&&vs[0]? == some (rawInt _))=true then _ else _) Q E s;rw [if_neg (by intro h;rw [hn,Bool.false_and] at h;cases h)];exact bh hQ))
noncomputable def Itl (K:bw) (a:Addr):It :=
 ⟨fun i H=>∃ xs x,rF K H a xs/\xs[i]?=some x,fun i H x H'=>H'=H/\∀ xs,rF K H a xs->xs[i]?=some x,fun i H=>∃ xs,rF K H a xs/\xs.length<=i⟩
noncomputable def Itt (K:bw) (a:Addr):It :=
 ⟨fun i H=>∃ xs x,qQ K H a xs/\xs[i]?=some x,fun i H x H'=>H'=H/\∀ xs,qQ K H a xs->xs[i]?=some x,fun i H=>∃ xs,qQ K H a xs/\xs.length<=i⟩
noncomputable def Itr (lo:Int) (n:Nat):It:=⟨fun i _=>i < n,fun i H x H'=>H'=H/\x = .int (lo+i),fun i _=>n<=i⟩
theorem a4D {w:World} {K:bw} (a it:Addr):Turn cm tl P w K tg (Itl K a) [it] it (fun i h=>h.IsListIter it a i) where
 mem:=by simp
 obj:=fun i h st b hb=>by
  have e:b=it:=by simpa using hb
  subst e;obtain ⟨o,e,c,d⟩:=st;exact ⟨o,e,fun v z=>by rw [d] at z;cases z⟩
 keep:=fun i h h' st k=>st.at fun o e=>k it (by simp) o e
 item:=by
  intro X hP hw hK hc ht i pins s σ H E I hf st hg;subst hP hw hK;obtain ⟨xs,x,hq,hx⟩:=hg;obtain ⟨its,rv,p,hz⟩:=I.list hq;obtain ⟨u,hu,ru⟩:=rv.get hx;obtain ⟨f0,f1,f2,f3,f4,f5⟩:=hf it (by simp);refine wpAny_pyNext_list_item st p.isList (x:=u) (by simpa using hu) fun h' st' sb=>?_;have I1:Inv X pins σ H { s with heap:=h' }:=I.turned (t':=s.toks) (fun b o hb e=>(sb.2 b hb).trans e) f0 f1 f3 f4 f5;obtain ⟨o,e,c,d⟩:=id st';exact ⟨u,rfl,a8I (s:={ s with heap:=h' }) e c d (by decide) ⟨x,H,I1,ru,⟨rfl,fun ys hy=>by rw [I.a8H hy hq];exact hx⟩,st',fun b hb=>(hf b hb).1⟩⟩
 done:=by
  intro X hP hw hK hc ht i pins s σ H E I hf st hg;subst hP hw hK;obtain ⟨xs,hq,hx⟩:=hg;obtain ⟨its,rv,p,hz⟩:=I.list hq;obtain ⟨f0,f1,f2,f3,f4,f5⟩:=hf it (by simp);have hl:=rv.length;exact aeX (I.hnd.heap I.hok) st p.isList (by simp;omega) fun h' eb=>⟨rfl,I.turned (t':=s.toks) (fun b o hb e=>eb b o hb e) f0 f1 f3 f4 f5⟩
 self:=fun _ _ _ _ _ st h=>wpAny_pyIter_listiter st h
theorem a0P {w:World} {K:bw} (a it:Addr):Turn cm tl P w K tg (Itt K a) [it] it (fun i h=>h.IsTupleIter it a i) where
 mem:=by simp
 obj:=fun i h st b hb=>by
  have e:b=it:=by simpa using hb
  subst e;obtain ⟨o,e,c,d⟩:=st;exact ⟨o,e,fun v z=>by rw [d] at z;cases z⟩
 keep:=fun i h h' st k=>st.at fun o e=>k it (by simp) o e
 item:=by
  intro X hP hw hK hc ht i pins s σ H E I hf st hg;subst hP hw hK;obtain ⟨xs,x,hq,hx⟩:=hg;obtain ⟨its,rv,p,hz⟩:=I.tuple hq;obtain ⟨u,hu,ru⟩:=rv.get hx;obtain ⟨f0,f1,f2,f3,f4,f5⟩:=hf it (by simp);refine wpAny_pyNext_tuple_item st (show s.heap.IsTuple a its.toArray from p) (x:=u) (by simpa using hu) fun h' st' sb=>?_;have I1:Inv X pins σ H { s with heap:=h' }:=I.turned (t':=s.toks) (fun b o hb e=>(sb.2 b hb).trans e) f0 f1 f3 f4 f5;obtain ⟨o,e,c,d⟩:=id st';exact ⟨u,rfl,a8I (s:={ s with heap:=h' }) e c d (by decide) ⟨x,H,I1,ru,⟨rfl,fun ys hy=>by rw [I.yK hy hq];exact hx⟩,st',fun b hb=>(hf b hb).1⟩⟩
 done:=by
  intro X hP hw hK hc ht i pins s σ H E I hf st hg;subst hP hw hK;obtain ⟨xs,hq,hx⟩:=hg;obtain ⟨its,rv,p,hz⟩:=I.tuple hq;obtain ⟨f0,f1,f2,f3,f4,f5⟩:=hf it (by simp);have hl:=rv.length;exact agN (I.hnd.heap I.hok) st (show s.heap.IsTuple a its.toArray from p) (by simp;omega) fun h' eb=>⟨rfl,I.turned (t':=s.toks) (fun b o hb e=>eb b o hb e) f0 f1 f3 f4 f5⟩
 self:=fun _ _ _ _ _ st h=>wpAny_pyIter_tupleiter st h
theorem aaT {w:World} {K:bw} (it:Addr) (lo:Int) (n:Nat):Turn cm tl P w K tg (Itr lo n) [it] it (fun i h=>IsRangeIter h it (lo+(i:Nat) * 1) ((n:Int) - (i:Nat)) 1) where
 mem:=by simp
 obj:=fun i h st b hb=>by
  have e:b=it:=by simpa using hb
  subst e
  exact ⟨_,st,fun v z=>by
   have z':Data.fields _=Data.cell v:=z;cases z'⟩
 keep:=fun i h h' st k=>k it (by simp) _ st
 item:=by
  intro X hP hw hK hc ht i pins s σ H E I hf st hg;subst hP hw hK;obtain ⟨f0,f1,f2,f3,f4,f5⟩:=hf it (by simp);have hi:i < n:=hg;refine wpAny_pyNext_range_item st (by omega) fun h' st' kk=>?_;have I1:Inv X pins σ H { s with heap:=h',toks:=s.toks+1 }:=I.turned (fun b o hb e=>(kk.2 b hb).trans e) f0 f1 f3 f4 f5
  have st2:IsRangeIter h' it (lo+((i+1:Nat):Int) * 1) ((n:Int) - ((i+1:Nat):Int)) 1:=by
   have e1:lo+((i:Nat):Int) * 1+1=lo+((i+1:Nat):Int) * 1:=by omega
   have e2:(n:Int) - ((i:Nat):Int) - 1=(n:Int) - ((i+1:Nat):Int):=by omega
   rw [← e1,← e2];exact st'
  refine ⟨_,rfl,a8I (s:={ s with heap:=h',toks:=s.toks+1 }) (n := "range_iterator") st2 rfl rfl (by decide) ⟨.int (lo+i),H,I1,⟨s.toks,?_⟩,⟨rfl,rfl⟩,st2,fun b hb=>(hf b hb).1⟩⟩;rw [Int.mul_one]
 done:=by
  intro X hP hw hK hc ht i pins s σ H E I hf st hg;subst hP hw hK;obtain ⟨f0,f1,f2,f3,f4,f5⟩:=hf it (by simp);exact agO (I.hnd.heap I.hok) st (by have:n<=i:=hg;omega) fun h' eb=>⟨rfl,I.turned (t':=s.toks) (fun b o hb e=>eb b o hb e) f0 f1 f3 f4 f5⟩
 self:=fun _ _ _ _ _ st h=>wpAny_pyIter_rangeiter st h
end
variable {fp:List Addr}{body:List Stmt}
section
section
variable {X:Cx} {tg:Expr}
theorem agX {σ:St} {H:Hp} {s:Shared} {R:It->Hp->Prop} {E:Value->Shared->Prop} {lo hi:Int} {t u v:Tok} {tk:Nat} (I:Inv X pins σ H s) (h1:-(2 ^ 62)<=lo) (h2:lo < 2 ^ 62) (h3:-(2 ^ 62)<=hi) (h4:hi < 2 ^ 62)
  (q:R (Itr lo (hi - lo).toNat) H):wpAny (model X.prog X.w) X.A (pyIter (.ref s.heap.objs.size)) (PIE X pins σ tg R) E { s with heap:=s.heap.push { cls := .type "range",data := .fields #[.int lo t,.int hi u,.int 1 v] },toks:=tk }:=by
 refine wpAny_pyIter_range (IsRange.new ..) (small_one h1 h2 h3 h4) ?_;have I1:Inv X pins σ H { s with heap:=s.heap.push { cls := .type "range",data := .fields #[.int lo t,.int hi u,.int 1 v] },toks:=tk }:=I.kept fun b o e=>ao _ e
 refine ⟨(s.heap.push { cls := .type "range",data := .fields #[.int lo t,.int hi u,.int 1 v] }).objs.size,[(s.heap.push { cls := .type "range",data := .fields #[.int lo t,.int hi u,.int 1 v] }).objs.size],_,_,H,rfl,
  I1.kept (t':=tk) fun b o e=>ao _ e,aaT _ lo (hi - lo).toNat,?_,fun b hb=>?_,q⟩
 ·have e1:lo+((0:Nat):Int) * 1=lo:=by simp
  have e2:(((hi - lo).toNat:Nat):Int) - ((0:Nat):Int)=Builtin.Range.rangeSize lo hi 1:=by rw [rangeSize_one];split <;> omega
  show IsRangeIter _ _ (lo+((0:Nat):Int) * 1) ((((hi - lo).toNat:Nat):Int) - ((0:Nat):Int)) 1;rw [e1,e2];exact dw _ rfl
 ·have e:b=(s.heap.push { cls := .type "range",data := .fields #[.int lo t,.int hi u,.int 1 v] }).objs.size:=by simpa using hb
  subst e;exact I1.yL (au _) (I1.hok.fresh (au _))
noncomputable def ayK (ta:TA):TI:=fun σ H R=>ta σ H fun vs H1=>∃ j:Int,vs=[.int j]/\-(2 ^ 62)<=j/\j < 2 ^ 62/\R (Itr 0 j.toNat) H1
theorem a4E {a:Expr} {ta:TA} {p pos:Pos} (hg:Gl X "range") (hm:X.mg "range" = none) (ha:PA X [a] ta) (hs:starEach [a] X.env=[(false,eval a X.env)]:=by rfl):PI X tg (.Call (.Name "range" p) [a] [] pos) (ayK ta):=by
 intro pins s σ H R I h _tk;refine Call_ (rG I hg hm boot_range (PyProof.Rows.callWith_type1 (cL (ha pos pins s σ H _ I h) fun us s1 ⟨vs,H1,I1,r1,q1⟩=>?_) hs rfl));obtain ⟨j,e,q1,q2,q⟩:=q1;subst e;cases r1 with
 | cons r rr =>
  cases rr;obtain ⟨t,rfl⟩:=r;exact call_range_1 (agX I1 (by omega) (by omega) q1 q2 (by simpa using q))
noncomputable def aDQ (wi:TI) (g:TG) (tb:TS):TS:=fun D σ H=>wi σ H fun J H1=>∃ W:Nat->Nat->St->Hp->Prop,(∃ m,W 0 m σ H1)/\∀ i m σ H,W i m σ H ->
 (J.stop i H/\D.nx σ H)∨(J.go i H/\∃ N:St->Hp->Prop,(∀ σ' H',N σ' H'->∃ m',m' < m/\W (i+1) m' σ' H')/\∀ x H',J.yld i H x H'->g x σ H' fun σ2 H2=>tb { D with nx:=N,ct:=N,bk:=D.nx } σ2 H2)
noncomputable def vI (fp:List Addr) (h:Heap):List (Addr×Obj):=fp.filterMap fun b=>(h.get? b).map fun o=>(b,o)
theorem lO {b:Addr} {o:Obj} (hb:b∈fp) (e:h.get? b=some o):(b,o)∈vI fp h:=a0a.mpr ⟨b,hb,by rw [e];rfl⟩
theorem af3 {p:Addr×Obj} (hp:p∈vI fp h):p.1∈fp/\h.get? p.1=some p.2:=by
 obtain ⟨b,hb,e⟩:=a0a.mp hp;cases q:h.get? b with
 | none=>rw [q] at e;cases e
 | some o =>
  rw [q] at e;have e':(b,o)=p:=ig.inj e;subst e';exact ⟨hb,q⟩
theorem Inv.pinned {σ:St} {H:Hp} {s:Shared} (I:Inv X pins σ H s) (hf:∀ b∈fp,j8 X pins H b) (ho:∀ b∈fp,∃ o,s.heap.get? b=some o/\∀ v,o.data ≠ .cell v):Inv X (pins++vI fp s.heap) σ H s :=
 I.acM fun p hp=>(qe.mp hp).elim (fun z=>I.pin p (jf _ z)) fun z=>by
  obtain ⟨hb,e⟩:=af3 z;obtain ⟨f0,f1,f2,_⟩:=hf p.1 hb;obtain ⟨o,e',d⟩:=ho p.1 hb;rw [e] at e';cases e';exact ⟨e,f0,f1,f2,d⟩
theorem Inv.rH {pl:List (Addr×Obj)} {σ:St} {H:Hp} {s:Shared} (I:Inv X (pins++pl) σ H s):Inv X pins σ H s:=I.acM fun p hp=>I.pin p (jf _ (zc _ hp))
theorem asN {iter:Expr} {wi:TI} {g:TG} {tb:TS} {pos:Pos} (hp:PassesOwn (model X.prog X.w) X.A X.env X.xe) (hi:PI X tg iter wi) (hg:PG X tg g) (hb:PSs X body tb)
  (hs:∀ x,foldedSetIterable iter X.env x=pure x:=by intro _;rfl):PS X (.For tg iter body [] pos) (aDQ wi g tb):=by
 intro pins s σ H D I h _tk;refine wpAny_For (cL (hi pins s σ H _ I h) fun v s1 h1=>cL h1 fun itv s2 h2=>?_) hs;intro aI3;obtain ⟨it,fp,tn,J,H2,e,I2,T,st2,f2,W,⟨m0,w0⟩,turn⟩:=h2;subst e;have stat:∀ {H':Hp},(∀ b∈fp,H' b=none)->∀ b∈fp,j8 X pins H' b:=fun hn b hb=>⟨hn b hb,(f2 b hb).2⟩;refine codeAny_forLoop_any (fun n s'=>Tk X.need s'/\∃ i σ' H',Inv X pins σ' H' s'/\tn i s'.heap/\(∀ b∈fp,H' b=none)/\W i n σ' H') ?_ m0 ⟨inferInstance,0,σ,H2,I2,st2,fun b hb=>(f2 b hb).1,w0⟩;rintro n s3 ⟨tk3,i,σ3,H3,I3,st3,fr3,w3⟩;rcases turn i n σ3 H3 w3 with ⟨stop,qn⟩ | ⟨go,N,hN,step⟩
 ·refine wpAny_passesOwn hp (cL (T.done X rfl rfl rfl (fun h=>h) (fun _ h=>h) i pins s3 σ3 H3 X.xe I3 (stat fr3) st3 stop) fun r s4 ⟨hr,I4⟩=>?_);subst hr;exact wpAny_execs_nil ⟨σ3,H3,I4,qn⟩
 ·refine wpAny_passesOwn hp (cL (T.item X rfl rfl rfl (fun h=>h) (fun _ h=>h) i pins s3 σ3 H3 X.xe I3 (stat fr3) st3 go) fun r s4 ⟨u,hr,h4⟩=>?_);subst hr;refine wpAny_passesOwn hp (cL h4 fun _ s5 ⟨x,H5,I5,r5,y5,st5,fr5⟩=>?_);have I5':=I5.pinned (stat fr5) (T.obj _ _ st5);refine wpAny_passesOwn hp (cL (hg _ s5 σ3 H5 x u _ I5' r5 (step x H5 y5)) fun _ s6 ⟨σ6,H6,I6,q6⟩=>?_);refine wpAny_passesOwn hp (cL (hb _ s6 σ6 H6 _ I6 q6) fun f s7 q7=>?_);intro aI6
  have again:∀ {σ7:St} {H7:Hp},Inv X (pins++vI fp s5.heap) σ7 H7 s7->N σ7 H7->∃ m,m < n/\Tk X.need s7/\∃ i σ' H',Inv X pins σ' H' s7/\tn i s7.heap/\(∀ b∈fp,H' b=none)/\W i m σ' H':=fun {σ7 H7} I7 n7=>by
   obtain ⟨m',hm,w7⟩:=hN σ7 H7 n7;refine ⟨m',hm,inferInstance,i+1,σ7,H7,I7.rH,T.keep _ _ _ st5 fun b hb o e=>(I7.pin (b,o) (jf _ (jf _ (lO hb e)))).1,fun b hb=>?_,w7⟩;obtain ⟨o,e,d⟩:=T.obj _ _ st5 b hb;exact (I7.pin (b,o) (jf _ (jf _ (lO hb e)))).2.1
  cases f with
  | next=>obtain ⟨σ7,H7,I7,n7⟩:=q7;exact again I7 n7
  | cont=>obtain ⟨σ7,H7,I7,n7⟩:=q7;exact again I7 n7
  | brk=>obtain ⟨σ7,H7,I7,q7⟩:=q7;exact ⟨σ7,H7,I7.rH,q7⟩
  | ret v=>obtain ⟨x7,σ7,H7,I7,r7,q7⟩:=q7;exact ⟨x7,σ7,H7,I7.rH,r7,q7⟩
end
end
variable {op':CmpOp}{y:V}
section
abbrev R2:=V->V->Hp->VK->Prop
noncomputable def mQ (X:Cx) (f:Value->Value->Sem Value) (r:R2):Prop :=
 ∀ (pins:List (Addr×Obj)) (s:Shared) (σ:St) (H:Hp) (x y:V) (v u:Value) (Q:VK),Inv X pins σ H s->RelV x v->RelV y u->r x y H Q ->
  wpAny (model X.prog X.w) X.A (f v u) (EP X pins σ Q) X.xe s
noncomputable def UnR (X:Cx) (f:Value->Sem Value) (r:V->Hp->VK->Prop):Prop :=
 ∀ (pins:List (Addr×Obj)) (s:Shared) (σ:St) (H:Hp) (x:V) (v:Value) (Q:VK),Inv X pins σ H s->RelV x v->r x H Q ->
  wpAny (model X.prog X.w) X.A (f v) (EP X pins σ Q) X.xe s
noncomputable def oM (X:Cx) (f:Value) (r:List V->Hp->VK->Prop):Prop :=
 ∀ (pins:List (Addr×Obj)) (s:Shared) (σ:St) (H:Hp) (xs:List V) (us:List Value) (Q:VK),Inv X pins σ H s->Vals xs us->r xs H Q ->
  wpAny (model X.prog X.w) X.A (call f us) (EP X pins σ Q) X.xe s
noncomputable def tOp (r:R2) (ta tb:TE):TE:=fun σ H Q=>ta σ H fun x H1=>tb σ H1 fun y H2=>r x y H2 Q
noncomputable def tUn (r:V->Hp->VK->Prop) (ta:TE):TE:=fun σ H Q=>ta σ H fun x H1=>r x H1 Q
noncomputable def rI (C:Int->Int->Prop) (g:Int->Int->V):R2:=fun x y H Q=>∃ i j,x = .int i/\y = .int j/\C i j/\Q (g i j) H
noncomputable def rI0 (g:Int->Int->V):R2:=fun x y H Q=>∃ i j,x = .int i/\y = .int j/\Q (g i j) H
noncomputable def rU (g:Int->V):V->Hp->VK->Prop:=fun x H Q=>∃ i,x = .int i/\Q (g i) H
variable {r:R2}
section
variable {X:Cx} {a b c:Expr} {ta tb tc:TE} {pos:Pos}
theorem asO (ha:PE X a ta) (hb:PE X b tb) {s:Shared} {σ:St} {H:Hp} [Tk X.need s] (I:Inv X pins σ H s)
  (h:ta σ H fun x H1=>tb σ H1 fun y H2=>R x y H2) {Q:Value->Shared->Prop} {f:Value->Value->Sem Value}
  (hf:∀ v u s2 x y H2,Inv X pins σ H2 s2->RelV x v->RelV y u->R x y H2->wpAny (model X.prog X.w) X.A (f v u) Q X.xe s2) :
  wpAny (model X.prog X.w) X.A (eval a X.env) (fun v s₁=>wpAny (model X.prog X.w) X.A (eval b X.env) (fun u s₂=>wpAny (model X.prog X.w) X.A (f v u) Q X.xe s₂) X.xe s₁) X.xe s:=by
 refine cL (ha pins s σ H _ I h) fun v s1 ⟨x,H1,I1,r1,q1⟩=>?_;refine cL (hb pins s1 σ H1 _ I1 q1) fun u s2 ⟨y,H2,I2,r2,q2⟩=>?_;exact hf v u s2 x y H2 I2 r1 r2 q2
theorem ayL {op:Operator} (ho:mQ X (binaryOp op) r) (ha:PE X a ta) (hb:PE X b tb):PE X (.BinOp a op b pos) (tOp r ta tb):=by
 intro pins s σ H Q I h _tk;exact wpAny_BinOp (asO ha hb I h fun v u s2 x y H2 I2 rx ry q=>ho pins s2 σ H2 x y v u Q I2 rx ry q)
theorem ayM {op:UnaryOp} {r:V->Hp->VK->Prop} (ho:UnR X (unaryOp op) r) (ha:PE X a ta):PE X (.UnaryOp op a pos) (tUn r ta):=by
 intro pins s σ H Q I h _tk;exact UnaryOp_ (cL (ha pins s σ H _ I h) fun v s1 ⟨x,H1,I1,r1,q1⟩=>ho pins s1 σ H1 x v Q I1 r1 q1)
theorem opI {f:Value->Value->Sem Value} {C:Int->Int->Prop} {g:Int->Int->Int}
  (rule:∀ (i j:Int) (t u:Tok) (s:Shared) (Q:Value->Shared->Prop) (E:Value->Shared->Prop),C i j->Q (.int (g i j) s.toks) { s with toks:=s.toks+1 }->wpAny (model X.prog X.w) X.A (f (.int i t) (.int j u)) Q E s) :
  mQ X f (rI C fun i j => .int (g i j)):=by
 intro pins s σ H x y v u Q I rx ry h;obtain ⟨i,j,rfl,rfl,hc,q⟩:=h;obtain ⟨t,rfl⟩:=rx;obtain ⟨t',rfl⟩:=ry;exact rule i j t t' s _ _ hc ⟨.int (g i j),H,I.tok _,⟨_,rfl⟩,q⟩
theorem amF {f:Value->Value->Sem Value} {g:Int->Int->Int}
  (rule:∀ (i j:Int) (t u:Tok) (s:Shared) (Q:Value->Shared->Prop) (E:Value->Shared->Prop),Q (.int (g i j) s.toks) { s with toks:=s.toks+1 }->wpAny (model X.prog X.w) X.A (f (.int i t) (.int j u)) Q E s) :
  mQ X f (rI0 fun i j => .int (g i j)):=by
 intro pins s σ H x y v u Q I rx ry h;obtain ⟨i,j,rfl,rfl,q⟩:=h;obtain ⟨t,rfl⟩:=rx;obtain ⟨t',rfl⟩:=ry;exact rule i j t t' s _ _ ⟨.int (g i j),H,I.tok _,⟨_,rfl⟩,q⟩
theorem amG {f:Value->Value->Sem Value} {g:Int->Int->Bool}
  (rule:∀ (i j:Int) (t u:Tok) (s:Shared) (Q:Value->Shared->Prop) (E:Value->Shared->Prop),Q (.bool (g i j)) s->wpAny (model X.prog X.w) X.A (f (.int i t) (.int j u)) Q E s) :
  mQ X f (rI0 fun i j => .bl (g i j)):=by
 intro pins s σ H x y v u Q I rx ry h;obtain ⟨i,j,rfl,rfl,q⟩:=h;obtain ⟨t,rfl⟩:=rx;obtain ⟨t',rfl⟩:=ry;exact rule i j t t' s _ _ ⟨.bl (g i j),H,I,rfl,q⟩
def asQ (i j:Int):Prop:=0 < j/\j < 1073741824
def asR (i j:Int):Prop:=0<=j/\j<=1000000/\i.natAbs < 2 ^ 64
def agY (i j:Int):Prop:=(-(2 ^ 64) < i/\i < 2 ^ 64)∨(-(2 ^ 64) < j/\j < 2 ^ 64)
theorem agY.ok {i j:Int} (h:agY i j):IntMulOk i j:=by
 rcases h with ⟨h1,h2⟩ | ⟨h1,h2⟩
 ·exact .of_left (intBits_le_64 h1 h2)
 ·exact .of_right (intBits_le_64 h1 h2)
theorem asS:mQ X (binaryOp .Add) (rI0 fun i j => .int (i+j)):=amF fun _ _ _ _ _ _ _ q=>add_int q
theorem asT:mQ X (binaryOp .Sub) (rI0 fun i j => .int (i - j)):=amF fun _ _ _ _ _ _ _ q=>sub_int q
theorem asU:mQ X (binaryOp .Mult) (rI agY fun i j => .int (i * j)):=opI fun _ _ _ _ _ _ _ hc q=>mul_int q hc.ok
theorem amH:mQ X (binaryOp .FloorDiv) (rI asQ fun i j => .int (i / j)):=opI fun i j _ _ _ _ _ hc q=>by
 have h1:(0:Int) < j:=hc.1;have h2:j < 1073741824:=hc.2;exact floordiv_int (by omega) (by rw [Int.fdiv_eq_ediv_of_nonneg i (by omega)];exact q) (.inl (PyProof.noPylong_small (by omega)))
theorem asV:mQ X (binaryOp .Mod) (rI (fun _ j=>0 < j) fun i j => .int (i % j)):=opI fun i j _ _ _ _ _ hc q=>by
 have h1:(0:Int) < j:=hc;exact mod_int' (by omega) (by rw [Int.fmod_eq_emod_of_nonneg i (by omega)];exact q)
theorem asW:mQ X (binaryOp .Pow) (rI asR fun i j => .int (i ^ j.toNat)):=opI fun _ _ _ _ _ _ _ hc q=>pow_int_small hc.1 hc.2.1 hc.2.2 q
theorem amI:mQ X (inplaceOp .Add) (rI0 fun i j => .int (i+j)):=amF fun _ _ _ _ _ _ _ q=>iadd_int q
theorem amJ:mQ X (inplaceOp .Sub) (rI0 fun i j => .int (i - j)):=amF fun _ _ _ _ _ _ _ q=>isub_int q
theorem unI {f:Value->Sem Value} {g:Int->Int}
  (rule:∀ (i:Int) (t:Tok) (s:Shared) (Q:Value->Shared->Prop) (E:Value->Shared->Prop),Q (.int (g i) s.toks) { s with toks:=s.toks+1 }->wpAny (model X.prog X.w) X.A (f (.int i t)) Q E s) :
  UnR X f (rU fun i => .int (g i)):=by
 intro pins s σ H x v Q I rx h;obtain ⟨i,rfl,q⟩:=h;obtain ⟨t,rfl⟩:=rx;exact rule i t s _ _ ⟨.int (g i),H,I.tok _,⟨_,rfl⟩,q⟩
theorem asY:UnR X (unaryOp .USub) (rU fun i => .int (-i)):=unI fun _ _ _ _ _ q=>neg_int q
end
variable {r':R2}
section
variable {X:Cx} {a b c:Expr} {ta tb tc:TE} {pos:Pos}
theorem a5U {σ:St} {H:Hp} {s:Shared} {Q:VK} {k k':Bool} (I:Inv X pins σ H s) (q:Q (.bl k) H) (e:k=k'):EP X pins σ Q (.bool k') s:=by
 subst e;exact ⟨.bl k,H,I,rfl,q⟩
theorem ayN:mQ X (compareOp .Lt) (rI0 fun i j => .bl (decide (i < j))):=amG fun _ _ _ _ _ _ _ q=>lt_int q
theorem ayO:mQ X (compareOp .LtE) (rI0 fun i j => .bl (decide (i<=j))):=amG fun _ _ _ _ _ _ _ q=>le_int q
theorem ayP:mQ X (compareOp .Gt) (rI0 fun i j => .bl (decide (j < i))):=amG fun _ _ _ _ _ _ _ q=>gt_int q
theorem ayQ:mQ X (compareOp .GtE) (rI0 fun i j => .bl (decide (j<=i))):=amG fun _ _ _ _ _ _ _ q=>ge_int q
theorem af4:mQ X (compareOp .In) (fun x y H Q=>∃ i j,x = .str i/\y = .str j/\Q (.bl (!(Builtin.Str.occurrences j i 0 j.length 1).isEmpty)) H):=by
 intro pins s σ H x y v u Q I rx ry h;obtain ⟨i,j,rfl,rfl,q⟩:=h;obtain ⟨t,rfl⟩:=rx;obtain ⟨t',rfl⟩:=ry;exact in_str (a5U I q rfl)
theorem asZ:mQ X (compareOp .Is) (fun x y H Q=>y = .non/\Q (.bl (decide (x = .non))) H):=by
 intro pins s σ H x y v u Q I rx ry h;obtain ⟨rfl,q⟩:=h;cases ry;refine is_none_gen (a5U I q ?_)
 cases x <;> first
  | (cases rx;rfl)
  | (obtain ⟨t,rfl⟩:=rx;rfl)
theorem amK:mQ X (compareOp .IsNot) (fun x y H Q=>y = .non/\Q (.bl (!decide (x = .non))) H):=by
 intro pins s σ H x y v u Q I rx ry h;obtain ⟨rfl,q⟩:=h;cases ry;refine isnot_none_gen (a5U I q ?_)
 cases x <;> first
  | (cases rx;rfl)
  | (obtain ⟨t,rfl⟩:=rx;rfl)
theorem a5V:mQ X (compareOp .NotIn) (fun x y H Q=>∃ i j,x = .str i/\y = .str j/\Q (.bl (!(!(Builtin.Str.occurrences j i 0 j.length 1).isEmpty))) H):=by
 intro pins s σ H x y v u Q I rx ry h;obtain ⟨i,j,rfl,rfl,q⟩:=h;obtain ⟨t,rfl⟩:=rx;obtain ⟨t',rfl⟩:=ry;exact notIn_str (a5U I q rfl)
theorem mQ.or {f:Value->Value->Sem Value} (h:mQ X f r) (h':mQ X f r'):mQ X f (fun x y H Q=>r x y H Q∨r' x y H Q):=by
 intro pins s σ H x y v u Q I rx ry q;rcases q with q | q
 ·exact h pins s σ H x y v u Q I rx ry q
 ·exact h' pins s σ H x y v u Q I rx ry q
theorem aDT (b:Expr) (h:op ≠ .In:=by decide) (h2:op ≠ .NotIn:=by decide):behindInMarks op b=false:=by
 have e1:(op == CmpOp.In)=false:=by cases op <;> first | rfl | exact absurd rfl h
 have e2:(op == CmpOp.NotIn)=false:=by cases op <;> first | rfl | exact absurd rfl h2
 cases b <;> simp [behindInMarks,e1,e2]
theorem amL (ho:mQ X (compareOp op) r) (ha:PE X a ta) (hb:PE X b tb) (hm:behindInMarks op b=false):PE X (.Compare a [op] [b] pos) (tOp r ta tb):=by
 intro pins s σ H Q I h _tk;exact wpAny_Compare1 (asO ha hb I h fun v u s2 x y H2 I2 rx ry q=>ho pins s2 σ H2 x y v u Q I2 rx ry q) hm
noncomputable def agZ (t:TE):TT:=fun σ H Q=>t σ H fun x H'=>∃ k,x = .bl k/\Q k H'
theorem amM (ho:mQ X (compareOp op) r) (ha:PE X a ta) (hb:PE X b tb) (hm:behindInMarks op b=false):PT X (.Compare a [op] [b] pos) (agZ (tOp r ta tb)):=by
 intro pins s σ H Q I h _tk
 refine wpAny_isTrue_Compare1 (cL (ha pins s σ H _ I h) fun v s1 ⟨x,H1,I1,r1,q1⟩=>cL (hb pins s1 σ H1 _ I1 q1) fun u s2 ⟨y,H2,I2,r2,q2⟩ =>
  cL (ho pins s2 σ H2 x y v u _ I2 r1 r2 q2) fun c s3 ⟨z,H3,I3,r3,k,e,q3⟩=>?_) hm
 subst e;cases r3;exact wpAny_truthy_bool ⟨H3,I3,q3⟩
noncomputable def aaU (r r':R2) (ta tb tc:TE):TE:=fun σ H Q=>ta σ H fun x H1=>tb σ H1 fun y H2=>r x y H2 fun z H3=>∃ k,z = .bl k /\
 (if k=true then tc σ H3 fun w' H4=>r' y w' H4 Q else Q (.bl false) H3)
theorem ah0 (ho:mQ X (compareOp op) r) (ho':mQ X (compareOp op') r') (ha:PE X a ta) (hb:PE X b tb) (hc:PE X c tc)
  (hm:lastMarks [op,op'] [b,c]=false:=by with_unfolding_all rfl):PE X (.Compare a [op,op'] [b,c] pos) (aaU r r' ta tb tc):=by
 intro pins s σ H Q I h _tk
 refine Compare_chain (cL (ha pins s σ H _ I h) fun v s1 ⟨x,H1,I1,r1,q1⟩=>chain_link (cL (hb pins s1 σ H1 _ I1 q1) fun u s2 ⟨y,H2,I2,r2,q2⟩ =>
  cL (ho pins s2 σ H2 x y v u _ I2 r1 r2 q2) fun d s3 ⟨z,H3,I3,r3,k,e,q3⟩=>?_)) hm
 subst e;cases r3;refine wpAny_truthy_bool ?_;cases k with
 | false=>exact ite_ff ⟨.bl false,H3,I3,rfl,q3⟩
 | true=>exact ite_tt (chain_last (cL (hc pins s3 σ H3 _ I3 q3) fun w' s4 ⟨z',H4,I4,r4,q4⟩=>ho' pins s4 σ H4 y z' u w' Q I4 r2 r4 q4))
theorem ah1 (ho:mQ X (compareOp op) r) (ho':mQ X (compareOp op') r') (ha:PE X a ta) (hb:PE X b tb) (hc:PE X c tc)
  (hm:lastMarks [op,op'] [b,c]=false:=by with_unfolding_all rfl):PT X (.Compare a [op,op'] [b,c] pos) (agZ (aaU r r' ta tb tc)):=by
 intro pins s σ H Q I h _tk
 refine isTrue_chain (cL (ha pins s σ H _ I h) fun v s1 ⟨x,H1,I1,r1,q1⟩=>test_link (cL (hb pins s1 σ H1 _ I1 q1) fun u s2 ⟨y,H2,I2,r2,q2⟩ =>
  cL (ho pins s2 σ H2 x y v u _ I2 r1 r2 q2) fun d s3 ⟨z,H3,I3,r3,k,e,q3⟩=>?_)) hm
 subst e;cases r3;refine wpAny_truthy_bool ?_;cases k with
 | false =>
  obtain ⟨k',e',q'⟩:=q3;cases e';exact ite_ff ⟨H3,I3,q'⟩
 | true =>
  refine ite_tt (test_last (cL (hc pins s3 σ H3 _ I3 q3) fun w' s4 ⟨z',H4,I4,r4,q4⟩=>cL (ho' pins s4 σ H4 y z' u w' _ I4 r2 r4 q4) fun d' s5 ⟨z2,H5,I5,r5,k2,e2,q5⟩=>?_));subst e2;cases r5;exact wpAny_truthy_bool ⟨H5,I5,q5⟩
theorem vJ:(sizeLine:Nat) < 2 ^ 63:=by rw [sizeLine_eq];decide
theorem aaV:mQ X (binaryOp .Add) (fun x y H Q=>∃ i j,x = .str i/\y = .str j/\i.length+j.length<=sizeLine/\Q (.str (i++j)) H):=by
 intro pins s σ H x y v u Q I rx ry h;obtain ⟨i,j,rfl,rfl,hz,q⟩:=h;obtain ⟨t,rfl⟩:=rx;obtain ⟨t',rfl⟩:=ry;exact add_str (fun t' tk=>⟨.str (i++j),H,I.tok _,⟨_,rfl⟩,q⟩) hz
theorem vals1 {x:V} (r:Vals [x] us):∃ u,us=[u]/\RelV x u:=by
 cases r with
 | cons r1 r2=>cases r2;exact ⟨_,rfl,r1⟩
theorem vals2 {x:V} (r:Vals [x,y] us):∃ u w',us=[u,w']/\RelV x u/\RelV y w':=by
 cases r with
 | cons r1 r2 =>
  cases r2 with
  | cons r3 r4=>cases r4;exact ⟨_,_,rfl,r1,r3⟩
theorem af5 (hc:X.calm=true):oM X (.builtin "max") (fun xs H Q=>∃ i j,xs=[.int i,.int j]/\Q (.int (if j > i then j else i)) H):=by
 intro pins s σ H xs us Q I r h;obtain ⟨i,j,rfl,q⟩:=h;obtain ⟨u,w',rfl,⟨t,rfl⟩,⟨t',rfl⟩⟩:=vals2 r;refine max_two_ints (I.ok.hd hc) fun h' tk k=>⟨_,H,I.kept k,?_,q⟩;by_cases hj:j > i
 ·rw [if_pos hj,if_pos hj];exact ⟨_,rfl⟩
 ·rw [if_neg hj,if_neg hj];exact ⟨_,rfl⟩
theorem af6 (hc:X.calm=true):oM X (.builtin "min") (fun xs H Q=>∃ i j,xs=[.int i,.int j]/\Q (.int (if j < i then j else i)) H):=by
 intro pins s σ H xs us Q I r h;obtain ⟨i,j,rfl,q⟩:=h;obtain ⟨u,w',rfl,⟨t,rfl⟩,⟨t',rfl⟩⟩:=vals2 r;refine min_two_ints (I.ok.hd hc) fun h' tk k=>⟨_,H,I.kept k,?_,q⟩;by_cases hj:j < i
 ·rw [if_pos hj,if_pos hj];exact ⟨_,rfl⟩
 ·rw [if_neg hj,if_neg hj];exact ⟨_,rfl⟩
theorem af7:oM X (.type "int") (fun xs H Q=>(∃ i,xs=[.int i]/\Q (.int i) H)∨∃ k,xs=[.bl k]/\Q (.int (if k then 1 else 0)) H):=by
 intro pins s σ H xs us Q I r h;rcases h with ⟨i,rfl,q⟩ | ⟨k,rfl,q⟩
 ·obtain ⟨u,rfl,t,rfl⟩:=vals1 r;exact call_int_int ⟨.int i,H,I,⟨_,rfl⟩,q⟩
 ·obtain ⟨u,rfl,r1⟩:=vals1 r;cases r1;exact call_int_bool ⟨.int (if k then 1 else 0),H,I.tok _,⟨_,rfl⟩,q⟩
end
end
variable {C:Addr}{kw:List (Str×Value)}
section
section
variable {prog:Program} {w:World} {A:Around} {E:Value->Shared->Prop} {s:Shared} {K:bw} {x dx C f:Addr} {mA:Str->Option Value} {name:Str} {v:Value}
theorem ah2 {R:Result->Shared->Prop} {vs:List Value} (X:K.In s.heap) (hm:PySem.W.makesIn K C=true)
  (hi:su K (.ref C) "__init__" = some (some (.ref f))) (hf:PySem.W.typeIn K (.ref f)=some (.type "function"))
  (h:codeAny (model prog w) (A.under (.builtin "type.__call__" ⟨.ref C :: vs,kw⟩)) (.call (.ref f) ⟨.ref (s.heap.objs.size+1) :: vs,kw⟩) (PySem.W.InitBack (s.heap.objs.size+1) R)
   { s with heap:=(s.heap.push qm).push (xq C s.heap.objs.size) }) :
  codeAny (model prog w) A (.call (.ref C) ⟨vs,kw⟩) R s:=by
 obtain ⟨hh,g,d,t,os⟩:=s;exact PySem.W.make_core (PySem.W.makes_of X hm) (PySem.W.looks_findIn X hi) (fun self=>PySem.W.bind_fn X self hf) (.inl rfl) h
end
section
variable {P:Program} {w:World} {H H':Hp} {h h':Heap} {a C dx:Addr} {fs fs':List (Str×V)}
end
structure Cls (K:bw) (C:Addr):Prop where
 pg:PySem.W.plainGet K C Str.empty=true
 hd:PySem.W.hasDictIn K C=true
 po:PySem.W.plainOver K C=true
 sa:su K (.ref C) "__setattr__" = some (some (.builtin "object.__setattr__"))
theorem Cls.get {K:bw} (c:Cls K C) (f:Str):PySem.W.plainGet K C f=true:=c.pg
def ah3 (K:bw) (C:Addr) (f:Str):Prop:=su K (.ref C) f=some none
structure Meth (K:bw) (C:Addr) (m:Str) (f:Addr):Prop where
 at_:su K (.ref C) m=some (some (.ref f))
 fn:PySem.W.isFn K (.ref f)=true
 kp:mz K (.ref f)=true
section
variable {X:Cx} {pins:List (Addr×Obj)} {σ:St} {H:Hp} {s:Shared} {a C dx:Addr} {fs:List (Str×V)} {f:Str} {v:V} {A:Around} {E:Value->Shared->Prop}
theorem Inv.made (I:Inv X pins σ H s):Inv X pins σ (upd (upd H s.heap.objs.size (.own (s.heap.objs.size+1))) (s.heap.objs.size+1) (.ins C s.heap.objs.size []))
  { s with heap:=(s.heap.push qm).push (xq C s.heap.objs.size) }:=by
 have e1:(s.heap.push qm).get? s.heap.objs.size=some qm:=dw s.heap rfl
 have e2:((s.heap.push qm).push (xq C s.heap.objs.size)).get? (s.heap.objs.size+1)=some (xq C s.heap.objs.size):=by
  have:=dw (s.heap.push qm) (o:=xq C s.heap.objs.size) rfl
  rwa [vp] at this
 have e3:(s.heap.push qm).Ns s.heap.objs.size (fun _=>none):=⟨qm,#[],_,e1,rfl,(fun e he=>absurd he (by simp)),fun _=>rfl⟩;have I1:=I.laid (a:=s.heap.objs.size) (o := .own (s.heap.objs.size+1)) (h':=s.heap.push qm) (t':=s.toks) (fun b u q=>ao _ q) (au _) ⟨_,e1⟩;refine I1.laid (a:=s.heap.objs.size+1) (o := .ins C s.heap.objs.size []) (t':=s.toks) (fun b u q=>ao _ q) (yt (vp _ _)) ?_;have ne:s.heap.objs.size≠s.heap.objs.size+1:=gk (Nat.lt_succ_self _);refine ⟨by rw [aQ ne,aH],je _,ne,e2,fun _=>none,(Heap.Ns1.of_empty e3).at fun o q=>ao _ q,fun _=>True.intro,fun y hy=>absurd rfl hy⟩
end
section
variable {X:Cx} {o e value:Expr} {f:Str} {pos pos' tpos:Pos} {ta tv:TE}
end
section
variable {X:Cx} {pins:List (Addr×Obj)} {σ:St} {H:Hp} {s:Shared} {A:Around} {E:Value->Shared->Prop} {Q:Value->Shared->Prop} {c:Value} {b:Bool}
end
end
variable {mg:Str->Option Value}{base:Heap}{fd:FuncData}{ps:List Str}{outer:List Env}{qual:Str}{scope:Scope}
section
structure cR (qt:Bool) (k:Nat) (A:Around):Prop where
 hd:qt=false->A.handled=none
 dp:A.depth+3 * k+5 < recursionLimit
 un:A.units+16 * k+200 < cLine
theorem cR.mono {j k:Nat} {A:Around} (r:cR qt k A) (h:j<=k):cR qt j A:=⟨r.hd,by have:=r.dp;omega,by have:=r.un;omega⟩
theorem cR.deeper {k:Nat} {A:Around} (r:cR qt (k+1) A) (env:Env):cR qt k (A.deeper env) :=
 ⟨r.hd,by have:=r.dp;show A.depth+1+3 * k+5 < _;omega,by have:=r.un;show A.units+3+16 * k+200 < _;omega⟩
theorem cR.in1 {k:Nat} {A:Around} (r:cR qt (k+1) A):cR qt k A.in1 :=
 ⟨r.hd,by have:=r.dp;show A.depth+3 * k+5 < _;omega,by have:=r.un;show A.units+1+16 * k+200 < _;omega⟩
theorem aaW {A:Around}:(A.under (.builtin "type.__call__" ⟨.ref C :: us,kw⟩)).depth=A.depth+1:=by
 first | rfl | simp [Around.under,Code.weight,Code.isCreation,Code.isGuard,Code.isCaller,Code.frames,Code.isFrame,guardIds]
theorem aaX {A:Around}:(A.under (.builtin "type.__call__" ⟨.ref C :: us,kw⟩)).units=A.units+1:=by
 first | rfl | simp [Around.under,Code.cUnits,Code.frames,Code.isFrame]
theorem cR.make {k:Nat} {A:Around} (r:cR qt (k+1) A) (C:Addr) (us:List Value) (kw:List (Str×Value)):cR qt k (A.under (.builtin "type.__call__" ⟨.ref C :: us,kw⟩)) :=
 ⟨r.hd,by have:=r.dp;rw [aaW];omega,by have:=r.un;rw [aaX];omega⟩
theorem cR.depth {k:Nat} {A:Around} (r:cR qt k A):A.depth < recursionLimit:=by have:=r.dp;omega
theorem cR.units {k:Nat} {A:Around} (r:cR qt k A):A.units+64 < cLine:=by have:=r.un;omega
noncomputable def ayR:TA:=fun _ H Q=>Q [] H
noncomputable def aqA (ta:TE) (tr:TA):TA:=fun σ H Q=>ta σ H fun x H1=>tr σ H1 fun xs H2=>Q (x :: xs) H2
section
variable {X:Cx} {e:Expr} {es:List Expr} {te:TE} {t:TA} {pos:Pos}
theorem at4:PA X [] ayR:=fun _ _ _ _ H Q I h=>Calls.spliced_nil ⟨[],H,I,.nil,h⟩
theorem amN (ha:PE X e te) (hr:PA X es t) (hs:starEach (e :: es) X.env=(false,eval e X.env) :: starEach es X.env:=by rfl):PA X (e :: es) (aqA te t):=by
 intro pos pins s σ H Q I h _tk;rw [hs];show wpAny _ _ (spliced ((false,eval e X.env) :: backTo pos (starEach es X.env))) _ _ s;refine Calls.spliced_cons (cL (ha pins s σ H _ I h) fun u s1 ⟨x,H1,I1,r1,q1⟩=>?_);exact cL (hr pos pins s1 σ H1 _ I1 q1) fun us s2 ⟨xs,H2,I2,r2,q2⟩=>⟨x :: xs,H2,I2,.cons r1 r2,q2⟩
noncomputable def aDU (t:TA):TE:=fun σ H Q=>t σ H fun xs H1=>xs.length<=sizeLine/\∀ p,H1 p=none->Q (.ref p) (upd H1 p (.tup xs))
noncomputable def aDV (t:TA):TE:=fun σ H Q=>t σ H fun xs H1=>xs.length<=sizeLine/\∀ p,H1 p=none->Q (.ref p) (upd H1 p (.lst xs))
theorem at5 {x1} (h:PA X es t):PE X (.Tuple es x1 pos) (aDU t):=by
 intro pins s σ H Q I hq _tk;refine wpAny_Tuple_spliced (cL (h pos pins s σ H _ I hq) fun us s1 ⟨xs,H1,I1,r,z,q⟩=>⟨by rw [← r.length];exact z,?_⟩);have hf:H1 s1.heap.objs.size=none:=I1.hok.fresh (au _);refine ⟨.ref s1.heap.objs.size,upd H1 s1.heap.objs.size (.tup xs),I1.laid (t':=s1.toks) (fun b u e=>ao _ e) (au _) ?_,rfl,q _ hf⟩;exact ⟨z,us,r,⟨_,dw _ rfl,rfl,_,rfl⟩⟩
theorem at6 (h:PA X es t):PE X (.List es pos) (aDV t):=by
 intro pins s σ H Q I hq _tk;refine wpAny_List_spliced (cL (h pos pins s σ H _ I hq) fun us s1 ⟨xs,H1,I1,r,z,q⟩=>⟨by rw [← r.length];exact z,?_⟩);have hf:H1 s1.heap.objs.size=none:=I1.hok.fresh (au _);refine ⟨.ref s1.heap.objs.size,upd H1 s1.heap.objs.size (.lst xs),I1.laid (t':=s1.toks) (fun b u e=>ao _ e) (au _) ?_,rfl,q _ hf⟩;exact ⟨z,us,0,r,dw _ rfl⟩
end
abbrev Sp:=List V->Hp->VK->XK->Prop
abbrev CXT:=List Env->Hp->Shared->XK->Value->Shared->Prop
structure vK (P:Program) (w:World) (K:bw) (mg:Str->Option Value) (base:Heap) (A:Around) (outer:List Env) (s:Shared) (H:Hp):Prop where
 frames:A.frames=some outer
 mod:Mod K mg base
 bs:∀ b o,base.get? b=some o->s.heap.get? b=some o/\H b=none
 bsz:base.objs.size<=s.heap.objs.size
 nU:s.heap.FunFrames base outer
 frf:∀ b∈frs outer,H b=none
 hok:wI P w H s.heap
 bare:AllBare s.gens
 hnd:Hnd A H
noncomputable def CE (outer:List Env) (P:Program) (w:World) (H:Hp) (s:Shared) (Q:VK) (u:Value) (s':Shared):Prop :=
 ∃ v H',s'.os=s.os/\AllBare s'.gens/\Un (frs outer) [] H H' s.heap s'.heap/\wI P w H' s'.heap/\RelV v u/\Q v H'
noncomputable def CR (CX:CXT) (outer:List Env) (P:Program) (w:World) (H:Hp) (s:Shared) (Q:VK) (E:XK) (r:Result) (s':Shared):Prop :=
 match r with
 | .ok (.ret u)=>CE outer P w H s Q u s'
 | .ok _=>False
 | .error e=>CX outer H s E e s'
structure cI (qt:Bool) (P:Program) (w:World) (K:bw) (mg:Str->Option Value) (base:Heap) (CX:CXT) (k:Nat) (f:Addr) (fd:FuncData) (ps:List Str) (sp:Sp):Prop where
 len:∀ vs H Q E,sp vs H Q E->vs.length=ps.length
 run:∀ (A:Around) (outer:List Env) (s:Shared) (H:Hp) (args:Args) (us:List Value) (vs:List V) (Q:VK) (E:XK),cR qt k A->vK P w K mg base A outer s H->BindsTo s fd args (ps.zip us)->Vals vs us->sp vs H Q E ->
  codeAny (model P w) A (.call (.ref f) args) (CR CX outer P w H s Q E) s
theorem cI.mono {P:Program} {w:World} {K:bw} {mg:Str->Option Value} {base:Heap} {CX:CXT} {j k:Nat} {f:Addr} {fd:FuncData} {ps:List Str} {sp:Sp} (F:cI qt P w K mg base CX j f fd ps sp) (h:j<=k) :
  cI qt P w K mg base CX k f fd ps sp:=⟨F.len,fun A outer s H args us vs Q E hr=>F.run A outer s H args us vs Q E (hr.mono h)⟩
variable {CX:CXT}{sp:Sp}
theorem cI.imp {w:World} {K:bw} {k:Nat} {f:Addr} {sp':Sp} (F:cI qt P w K mg base CX k f fd ps sp)
  (h:∀ vs H Q E,sp' vs H Q E->sp vs H Q E):cI qt P w K mg base CX k f fd ps sp' :=
 ⟨fun vs H Q E q=>F.len vs H Q E (h _ _ _ _ q),fun A outer s H args us vs Q E hr he hb hv hs=>F.run A outer s H args us vs Q E hr he hb hv (h _ _ _ _ hs)⟩
theorem vK.make {w:World} {K:bw} {A:Around} {s:Shared} {H:Hp} (e:vK P w K mg base A outer s H) (C:Addr) (us:List Value) (kw:List (Str×Value)) :
  vK P w K mg base (A.under (.builtin "type.__call__" ⟨.ref C :: us,kw⟩)) outer s H:=⟨by first | exact e.frames | (simpa [Around.under,Code.envs,Code.isFrame,pushEnvs] using e.frames),e.mod,e.bs,e.bsz,e.nU,e.frf,e.hok,e.bare,e.hnd⟩
theorem vK.in1 {w:World} {K:bw} {A:Around} {s:Shared} {H:Hp} (e:vK P w K mg base A outer s H) :
  vK P w K mg base A.in1 outer s H:=⟨e.frames,e.mod,e.bs,e.bsz,e.nU,e.frf,e.hok,e.bare,e.hnd⟩
section
variable {X:Cx} {pins:List (Addr×Obj)} {σ:St} {H:Hp} {s s':Shared}
theorem Inv.env0 (I:Inv X pins σ H s):vK X.prog X.w X.K X.mg X.base X.A X.stack s H :=
 ⟨I.ok.frames,I.ok.mod,I.bs,ju I.ok.bsz I.sz,I.stack,I.a5S,I.hok,I.bare,I.hnd⟩
end
noncomputable def Binds (K:bw) (fd:FuncData) (ps:List Str) (ds:List Value):Prop :=
 ∀ (s:Shared) (us:List Value),K.In s.heap->(us++ds).length=ps.length->BindsTo s fd ⟨us,[]⟩ (ps.zip (us++ds))
theorem Binds.all {K:bw} (h:∀ us:List Value,us.length=ps.length->bindArgs fd ⟨us,[]⟩=pure (ps.zip us)):Binds K fd ps []:=fun s us _ hl=>by
 rw [um] at hl ⊢;exact .of_eq (h us hl)
section
variable {X:Cx} {CX:CXT} {k:Nat} {f C:Addr} {fd:FuncData} {ps:List Str} {sp:Sp} {wJ:List V} {ds:List Value} {E:XK} {x m:Str} {p pos apos:Pos} {e o:Expr} {es:List Expr} {ta:TE} {t:TA}
structure Mk (K:bw) (C f:Addr):Prop where
 makes:PySem.W.makesIn K C=true
 init:su K (.ref C) "__init__" = some (some (.ref f))
 fn:PySem.W.isFn K (.ref f)=true
 kp:mz K (.ref C)=true
end
noncomputable def PK (X:Cx) (kws:List Keyword) (t:TA):Prop :=
 ∀ (pos:Pos) (pins:List (Addr×Obj)) (s:Shared) (σ:St) (H:Hp) (Q:List V->Hp->Prop),Inv X pins σ H s->t σ H Q->[Tk X.need s]->wpAny (model X.prog X.w) X.A (evalAll ((backToKw pos (keywordEach kws X.env)).map (·.2))) (AP X pins σ Q) X.xe s
section
variable {X:Cx} {CX:CXT} {k:Nat} {f C:Addr} {fd:FuncData} {ps ks:List Str} {sp:Sp} {E:XK} {x m:Str} {p pos apos kpos:Pos} {e o:Expr} {es:List Expr} {kws:List Keyword} {te ta:TE} {t tk:TA} {nm:Option Str}
theorem ah4:PK X [] ayR:=fun _ _ _ _ H Q I h=>wpAny_evalAll_nil ⟨[],H,I,.nil,h⟩
theorem acP (ha:PE X e te) (hr:PK X kws t):PK X (⟨nm,e,kpos⟩ :: kws) (aqA te t):=by
 intro pos pins s σ H Q I h _tk;show wpAny _ _ (evalAll ((do let v ← eval e X.env;standAt pos;pure v) :: (backToKw pos (keywordEach kws X.env)).map (·.2))) _ _ s;refine wpAny_evalAll_cons (aj (cL (ha pins s σ H _ I h) fun u s1 ⟨x,H1,I1,r1,q1⟩=>aj (wpAny_standAt (bh ?_))));exact cL (hr pos pins s1 σ H1 _ I1 q1) fun us s2 ⟨xs,H2,I2,r2,q2⟩=>⟨x :: xs,H2,I2,.cons r1 r2,q2⟩
variable {g:List Value->List Value->List Value} {gV:List V->List V->List V}
end
structure bM (N P:List Str) (sc:Scope):Prop where
 kind:sc.kind = .function
 co:sc.isCoroutine=false
 gen:sc.isGenerator=false
 nd:N.Nodup
 pre:N.take P.length=P
 par:∀ x∈P,sc.names.lookup x=some .local∨sc.names.lookup x=some .cell
 at7:∀ y∈sc.names,y.2 ≠ .free
theorem a4F {kindOf:Str->Option NameKind} {x:Str}:∀ {binds:List (Str×Value)} {m:Str->Option Value},(∀ v,(x,v) ∉ binds)->bindL kindOf binds m x=m x
 | [],_,_=>rfl
 | (n,v) :: r,m,h=>by
  unfold bindL;rw [a4F fun w hw=>h w (iu _ hw)];split
  ·have:x≠n:=by rintro rfl;exact h v jj
   simp [this]
  ·rfl
theorem a4G {kindOf:Str->Option NameKind} {x:Str}:∀ {binds:List (Str×Value)} {m:Str->Option Value},(∀ v,(x,v) ∉ binds)->bindC kindOf binds m x=m x
 | [],_,_=>rfl
 | (n,v) :: r,m,h=>by
  unfold bindC;rw [a4G fun w hw=>h w (iu _ hw)];split
  ·rfl
  ·have:x≠n:=by rintro rfl;exact h v jj
   simp [this]
theorem yM {kindOf:Str->Option NameKind} {x:Str} {v:Value}:∀ {P:List Str} {vs:List Value} {i:Nat} {m:Str->Option Value},P.Nodup->P[i]?=some x->vs[i]?=some v->kindOf x=some .local ->
  bindL kindOf (P.zip vs) m x=some v
 | [],_,_,_,_,h,_,_=>by simp at h
 | _ :: _,[],_,_,_,_,h,_=>by simp at h
 | p :: P,w :: vs,0,m,nd,h1,h2,hk=>by
  simp at h1 h2;subst h1;subst h2;show bindL kindOf ((p,w) :: P.zip vs) m p=_;unfold bindL;rw [a4F fun v hv=>(oh.mp nd).1 (a0r hv).1,if_pos hk];simp
 | p :: P,w :: vs,i+1,m,nd,h1,h2,hk=>by
  show bindL kindOf ((p,w) :: P.zip vs) m x=_;unfold bindL;exact yM (i:=i) (oh.mp nd).2 (by simpa using h1) (by simpa using h2) hk
theorem a4H {kindOf:Str->Option NameKind} {x:Str} {v:Value}:∀ {P:List Str} {vs:List Value} {i:Nat} {m:Str->Option Value},P.Nodup->P[i]?=some x->vs[i]?=some v->kindOf x≠some .local ->
  bindC kindOf (P.zip vs) m x=some v
 | [],_,_,_,_,h,_,_=>by simp at h
 | _ :: _,[],_,_,_,_,h,_=>by simp at h
 | p :: P,w :: vs,0,m,nd,h1,h2,hk=>by
  simp at h1 h2;subst h1;subst h2;show bindC kindOf ((p,w) :: P.zip vs) m p=_;unfold bindC;rw [a4G fun v hv=>(oh.mp nd).1 (a0r hv).1,if_neg hk];simp
 | p :: P,w :: vs,i+1,m,nd,h1,h2,hk=>by
  show bindC kindOf ((p,w) :: P.zip vs) m x=_;unfold bindC;exact a4H (i:=i) (oh.mp nd).2 (by simpa using h1) (by simpa using h2) hk
noncomputable def start (N:List Str) (vs:List V):St:=vs.map some++gq (N.length - vs.length) none
noncomputable def j9 (qt:Bool) (CX:CXT) (P:Program) (w:World) (K:bw) (mg:Str->Option Value) (base:Heap) (N:List Str) (qual:Str) (scope:Scope) (f:Addr) (cd:Value) (A:Around) (outer:List Env) (s:Shared) (H:Hp) (E:XK):Cx where
 prog:=P
 w:=w
 K:=K
 mg:=mg
 base:=base
 A:=A.deeper (envOfC qual scope s.heap.objs.size f cd)
 N:=N
 s₀:=s
 H₀:=H
 env:=envOfC qual scope s.heap.objs.size f cd
 outer:=outer
 stack:=envOfC qual scope s.heap.objs.size f cd :: outer
 ex:=[]
 calm:=!qt
 fn:=fun _=>true
 pn:=[]
 tp:=[]
 xe:=fun e s'=>wpAny (model P w) (A.deeper (envOfC qual scope s.heap.objs.size f cd)) (leaving (envOfC qual scope s.heap.objs.size f cd) e) (fun _ s''=>CX outer H s E e s'') (fun e' s''=>CX outer H s E e' s'') s'
instance aGH {qt:Bool} {CX:CXT} {P:Program} {w:World} {K:bw} {mg:Str->Option Value} {base:Heap} {N:List Str} {qual:Str} {scope:Scope} {f:Addr} {cd:Value} {A:Around} {outer:List Env} {s s1:Shared} {H:Hp} {E:XK}:Tk (j9 qt CX P w K mg base N qual scope f cd A outer s H E).need s1:=⟨fun z=>nomatch z⟩
theorem a0Q {sc:Scope} {n:Nat} {x:Str} (h:sc.names.lookup x=some .cell):∃ c,(cellsFrom n sc.names []).lookup x=some c:=by
 have q:=PySem.W.cellsFrom_some sc.names n [] (.inl h);exact a0b.mp q
theorem af8 {w:World} {K:bw} {N:List Str} {f:Addr} {cd:Value} {A:Around} {s s1:Shared} {H:Hp} {E:XK} {vs:List V}
  (S:bM N ps scope) (hd:qt=false->A.handled=none) (e0:vK P w K mg base A outer s H) (hl:vs.length=ps.length) (r:Vals vs us)
  (x:InCallC s s.heap.objs.size (bindL (envOfC qual scope s.heap.objs.size f cd).kindOf (ps.zip us) fun _=>none) (cellsFrom (s.heap.objs.size+1) scope.names []) (bindC (envOfC qual scope s.heap.objs.size f cd).kindOf (ps.zip us) fun _=>none) s1) :
  Inv (j9 qt CX P w K mg base N qual scope f cd A outer s H E) [] (start N vs) H s1:=by
 have hpl:ps.length<=N.length:=by have:=congrArg List.length S.pre;rw [qx] at this;omega
 obtain ⟨h1,tk,rfl,hk⟩:=x.done;have noA:∀ b:Addr,b ∉ (j9 qt CX P w K mg base N qual scope f cd A outer s H E).ex:=fun b z=>absurd (show b∈([]:List Addr) from z) (by simp)
 refine ⟨⟨e0.mod,S.kind,rfl,rfl,au _,fun y z c h1 h2=>?_,fun y hy=>?_,fun y c _ h=>?_,fun z=>hd (by cases qt with | false=>rfl | true=>cases z),Around.frames_deeper e0.frames,.inr ⟨rfl,rfl⟩,fun b z=>absurd z (noA b),e0.bs,e0.bsz,fun b _ _=>noA b,fun b z=>absurd z (noA b),e0.nU,e0.frf⟩,
  rfl,e0.bare,Un.kept hk,⟨_,x.toInCall.ns,fun i y v h1 h2 h3=>?_⟩,fun y c h=>⟨_,x.cell y c h⟩,e0.hok.fresh (au _),fun y c h=>?_,fun p hp=>absurd (show p∈([]:List (Addr×Obj)) from hp) (by simp),e0.hok.kept hk,?_,e0.hnd,fun p hp=>absurd (show p∈([]:List (Addr×List V)) from hp) (by simp)⟩
 ·exact name_of_addr x.apart (PySem.mem_of_lookup h1) (PySem.mem_of_lookup h2)
 ·have hy:scope.names.lookup y=some .cell∨scope.names.lookup y=some .free:=hy;rcases hy with hy | hy
  ·exact a0Q hy
  ·exact absurd rfl (S.at7 _ (PySem.mem_of_lookup hy))
 ·exact jx (x.above y c (PySem.mem_of_lookup h))
 ·have hi:i < vs.length:=by
   unfold start at h2;by_cases hi:i < vs.length
   ·exact hi
   ·rw [nq (by simpa using hi)] at h2;rw [List.getElem?_replicate] at h2;split at h2 <;> cases h2
  have ha:vs[i]?=some v:=by
   unfold start at h2;rw [ug (by simpa using hi),gw] at h2;cases e:vs[i]? with
   | none=>rw [e] at h2;cases h2
   | some a=>rw [e] at h2;cases h2;rfl
  obtain ⟨u,hu,rv⟩:=r.get ha
  have hp:ps[i]?=some y:=by
   rw [← S.pre,a0c (by omega)];exact h1
  have ndP:ps.Nodup:=by rw [← S.pre];exact S.nd.sublist (List.take_sublist _ _)
  refine ⟨u,rv,?_⟩;rcases S.par y (iw hp) with k | k
  ·exact .inl ⟨k,yM ndP hp hu k⟩
  ·obtain ⟨c,e⟩:=a0Q (n:=s.heap.objs.size+1) k;refine .inr ⟨.inl k,c,e,?_⟩;have q:=x.cell y c e;rw [a4H ndP hp hu (by show scope.names.lookup y≠_;rw [k];decide)] at q;exact q
 ·exact e0.hok.fresh (jx (x.above y c (PySem.mem_of_lookup h)))
 ·unfold start;show _=N.length;rw [mj,bx,List.length_replicate];omega
theorem ah5 {w:World} {K:bw} {k:Nat} {f:Addr} {name:Str} {params:Arguments} {dV kV doc pm cdv ct oc:Value} {an od:Option Addr}
  {osl:Array (Option Value)} {N:List Str} (lk:K.lookup f=some ⟨oc,od,.func (uo name qual params body scope dV kV doc pm an cdv ct),osl⟩) (hcd:a0e K cdv qual=true) (S:bM N ps scope)
  (len:∀ vs H Q E,sp vs H Q E->vs.length=ps.length)
  (hbody:∀ (A:Around) (outer:List Env) (s:Shared) (H:Hp) (vs:List V) (Q:VK) (E:XK),cR qt k (A.deeper (envOfC qual scope s.heap.objs.size f cdv))->sp vs H Q E ->
   ∃ t,PSs (j9 qt CX P w K mg base N qual scope f cdv A outer s H E) body t/\t { nx:=fun _ H'=>Q .non H',rt:=Q } (start N vs) H) :
  cI qt P w K mg base CX (k+1) f (uo name qual params body scope dV kV doc pm an cdv ct) ps sp:=by
 refine ⟨len,fun A outer s H args us vs Q E hr e0 hb r hsp=>?_⟩;have hl:=len _ _ _ _ hsp;have KX:K.In s.heap:=e0.mod.kin.keeps fun b o e=>(e0.bs b o e).1;have lim:s.heap.NoLimit:=e0.mod.nolimit.keeps fun b o e=>(e0.bs b o e).1
 have hkind:∀ y∈ps.zip us,scope.names.lookup y.1=some .local∨(scope.names.lookup y.1=some .cell/\((cellsFrom (s.heap.objs.size+1) scope.names []).lookup y.1).isSome=true):=fun ⟨n,v⟩ hy=>by
  rcases S.par n (a0r hy).1 with q | q
  ·exact .inl q
  ·exact .inr ⟨q,PySem.W.cellsFrom_some _ _ _ (.inl q)⟩
 refine codeAny_call_function hr.depth (KX _ _ lk) rfl S.co S.gen rfl (PySem.W.codeRec_of KX hcd) (hb _ _ _ _ ?_);refine wpAny_newFunctionEnv_cells S.kind hkind fun env he s1 x=>?_;subst he;refine ⟨lim.keeps x.toInCall.keep,codeAny_func ?_⟩;obtain ⟨t,ht,hq⟩:=hbody A outer s H vs Q E (hr.deeper _) hsp;have I:Inv (j9 qt CX P w K mg base N qual scope f cdv A outer s H E) [] (start N vs) H s1:=af8 S hr.hd e0 hl r x;refine wpAny_mono (@ht [] s1 (start N vs) H _ I hq ⟨fun z=>nomatch z⟩) (fun fl s' hs=>?_) fun e s' hs=>hs
 have fin:∀ {σ':St} {H':Hp} {v:V} {u:Value},Inv (j9 qt CX P w K mg base N qual scope f cdv A outer s H E) [] σ' H' s'->RelV v u->Q v H'->CE outer P w H s Q u s' :=
  fun {σ' H' v u} J rv q=>⟨v,H',J.os,J.bare,J.base,J.hok,rv,q⟩
 cases fl with
 | ret u =>
  obtain ⟨v,σ',H',J,rv,q⟩:=hs;exact fin J rv q
 | next =>
  obtain ⟨σ',H',J,q⟩:=hs;exact fin (v:=V.non) (u:=Value.none) J rfl q
 | brk =>
  obtain ⟨_,_,_,q⟩:=hs;exact False.elim q
 | cont =>
  obtain ⟨_,_,_,q⟩:=hs;exact False.elim q
end
section
section
variable {X:Cx} {x:Str} {p pos:Pos} {e:Expr} {es:List Expr} {t:TA} {id T:String} {r:List V->Hp->VK->Prop}
end
end
variable {kvs:List (List Key×V)}{xs:List (List Key×Addr×Value)}
section
section
variable {κ:Type} [DecidableEq κ]
noncomputable def vL (kvs:List (κ×V)) (k:κ):Option V:=(kvs.find? fun kv=>decide (kv.1=k)).map (·.2)
noncomputable def putK (kvs:List (κ×V)) (k:κ) (v:V):List (κ×V) :=
 if (kvs.any fun kv=>decide (kv.1=k))=true then kvs.map (fun kv=>if kv.1=k then (kv.1,v) else kv) else kvs++[(k,v)]
noncomputable def acQ (kvs:List (κ×V)) (k:κ):List (κ×V):=kvs.filter fun kv=>decide (kv.1≠k)
theorem wL {p:κ×V} {r:List (κ×V)} {k:κ} (e:p.1=k):vL (p :: r) k=some p.2:=by simp [vL,xr,e]
theorem wM {p:κ×V} {r:List (κ×V)} {k:κ} (e:¬ p.1=k):vL (p :: r) k=vL r k:=by simp [vL,xr,e]
theorem a0R (k:κ):∀ kvs:List (κ×V),(kvs.any fun kv=>decide (kv.1=k))=(vL kvs k).isSome
 | []=>rfl
 | p :: r=>by
  rw [wz];by_cases e:p.1=k
  ·simp only [wL e,decide_eq_true e,Bool.true_or,Option.isSome_some]
  ·rw [wM e,decide_eq_false e,Bool.false_or];exact a0R k r
theorem a8F.af9 {o:Option V} {u:Option Value} (r:a8F o u):o.isSome=u.isSome:=by
 cases o with
 | none=>cases u with
  | none=>rfl
  | some _=>exact (show False from r).elim
 | some _=>cases u with
  | none=>exact (show False from r).elim
  | some _=>rfl
theorem a8F.getD {o:Option V} {u:Option Value} {d:V} {d':Value} (r:a8F o u) (rd:RelV d d'):RelV (o.getD d) (u.getD d'):=by
 cases o with
 | none=>cases u with
  | none=>exact rd
  | some _=>exact (show False from r).elim
 | some _=>cases u with
  | none=>exact (show False from r).elim
  | some _=>exact r
theorem KV.val {kvs:List (κ×V)} {vs:List (κ×Value)} (r:KV kvs vs) (k:κ):a8F (vL kvs k) (valueAt vs k):=by
 unfold KV at r
 induction r with
 | nil=>exact True.intro
 | @cons p q ps qs h t ih =>
  obtain ⟨h1,h2⟩:=h;by_cases e:p.1=k
  ·have e':q.1=k:=h1.symm.trans e;have b:valueAt (q :: qs) k=some q.2:=by simp [valueAt,xr,e']
   rw [wL e,b];exact h2
  ·have e':¬ q.1=k:=fun z=>e (h1.trans z);have b:valueAt (q :: qs) k=valueAt qs k:=by simp [valueAt,xr,e']
   rw [wM e,b];exact ih
theorem KV.any {kvs:List (κ×V)} {vs:List (κ×Value)} (r:KV kvs vs) (k:κ):(kvs.any fun kv=>decide (kv.1=k))=vs.any fun kv=>decide (kv.1=k):=by
 unfold KV at r
 induction r with
 | nil=>rfl
 | cons h t ih=>rw [wz,wz,ih,h.1]
theorem KV.repl {kvs:List (κ×V)} {vs:List (κ×Value)} (r:KV kvs vs) (k:κ) (ry:RelV y u) :
  KV (kvs.map fun kv=>if kv.1=k then (kv.1,y) else kv) (vs.map fun kv=>if kv.1=k then (kv.1,u) else kv):=by
 unfold KV at r ⊢
 induction r with
 | nil=>exact .nil
 | @cons p q ps qs h t ih =>
  rw [jm,jm];refine .cons ?_ ih;obtain ⟨h1,h2⟩:=h;by_cases e:p.1=k
  ·rw [if_pos e,if_pos (h1.symm.trans e)];exact ⟨h1,ry⟩
  ·rw [if_neg e,if_neg (fun z=>e (h1.trans z))];exact ⟨h1,h2⟩
theorem KV.put {kvs:List (κ×V)} {vs:List (κ×Value)} (r:KV kvs vs) (k:κ) (ry:RelV y u):KV (putK kvs k y) (stored vs k u):=by
 unfold putK stored;rw [r.any k];by_cases e:(vs.any fun kv=>decide (kv.1=k))=true
 ·rw [if_pos e,if_pos e];exact r.repl k ry
 ·rw [if_neg e,if_neg e];exact Paired.snoc r ⟨rfl,ry⟩
theorem KV.drop {kvs:List (κ×V)} {vs:List (κ×Value)} (r:KV kvs vs) (k:κ):KV (acQ kvs k) (without vs k):=by
 unfold KV at r ⊢;unfold acQ without
 induction r with
 | nil=>exact .nil
 | @cons p q ps qs h t ih =>
  obtain ⟨h1,h2⟩:=h;rw [vq,vq];by_cases e:p.1=k
  ·have a:¬ decide (p.1≠k)=true:=by simp [e]
   have b:¬ decide (q.1≠k)=true:=by simp [h1.symm.trans e]
   rw [if_neg a,if_neg b];exact ih
  ·have e':¬ q.1=k:=fun z=>e (h1.trans z);have a:decide (p.1≠k)=true:=by simp [e]
   have b:decide (q.1≠k)=true:=by simp [e']
   rw [if_pos a,if_pos b];exact .cons ⟨h1,h2⟩ ih
theorem KV.length {kvs:List (κ×V)} {vs:List (κ×Value)} (r:KV kvs vs):kvs.length=vs.length:=Paired.length r
end
noncomputable abbrev KT (H:Hp):List (List Key×V)->List (List Key×Addr×Value)->Prop:=Paired fun p q=>p.1=q.1/\H q.2.1=some (.tup (p.1.map kV))/\RelV p.2 q.2.2
theorem KT.val {H:Hp} (r:KT H kvs xs) (k:List Key):a8F (vL kvs k) ((atKey xs k).map (·.2)):=by
 induction r with
 | nil=>exact True.intro
 | @cons p q ps qs h t ih =>
  obtain ⟨h1,_,h2⟩:=h;by_cases e:p.1=k
  ·have e':q.1=k:=h1.symm.trans e;have b:atKey (q :: qs) k=some q.2:=by simp [atKey,xr,e']
   rw [wL e,b];exact h2
  ·have e':¬ q.1=k:=fun z=>e (h1.trans z);have b:atKey (q :: qs) k=atKey qs k:=by simp [atKey,xr,e']
   rw [wM e,b];exact ih
theorem KT.repl {H:Hp} (r:KT H kvs xs) (k:List Key) (ry:RelV y u) :
  KT H (kvs.map fun kv=>if kv.1=k then (kv.1,y) else kv) (xs.map (putAt k u)):=by
 induction r with
 | nil=>exact .nil
 | @cons p q ps qs h t ih =>
  rw [jm,jm];refine .cons ?_ ih;obtain ⟨h1,h2,h3⟩:=h;unfold putAt;by_cases e:p.1=k
  ·rw [if_pos e,if_pos (h1.symm.trans e)];exact ⟨h1,h2,ry⟩
  ·rw [if_neg e,if_neg (fun z=>e (h1.trans z))];exact ⟨h1,h2,h3⟩
theorem KT.put {H:Hp} (r:KT H kvs xs) (k:List Key) {b:Addr} (hb:H b=some (.tup (k.map kV))) (ry:RelV y u) :
  KT H (putK kvs k y) (storedH xs k b u):=by
 have e:(kvs.any fun kv=>decide (kv.1=k))=(atKey xs k).isSome:=by
  rw [a0R,(r.val k).af9,Option.isSome_map]
 unfold putK storedH;rw [e];by_cases q:(atKey xs k).isSome=true
 ·rw [if_pos q,if_pos q];exact r.repl k ry
 ·rw [if_neg q,if_neg q];exact Paired.snoc r ⟨rfl,hb,ry⟩
theorem KT.keeps {H H':Hp} (r:KT H kvs xs) (ht:∀ b ys,H b=some (.tup ys)->H' b=some (.tup ys)):KT H' kvs xs :=
 Paired.arV r fun _ _ z=>⟨z.1,ht _ _ z.2.1,z.2.2⟩
section
variable {P:Program} {w:World} {H:Hp} {h:Heap} {a:Addr}
end
noncomputable def aaY (H:Hp) (a:Addr) (y:V) (r:Option V):Prop :=
 (∃ kvs k,Rd H a (.dK kvs)/\y=kV k/\r=vL kvs k)∨∃ kvs k b,Rd H a (.dT kvs)/\y = .ref b/\H b=some (.tup (k.map kV))/\r=vL kvs k
noncomputable def ah6 (H:Hp) (a:Addr) (y v:V) (H':Hp):Prop :=
 (∃ kvs k,H a=some (.dK kvs)/\y=kV k/\kvs.length < sizeLine/\H'=upd H a (.dK (putK kvs k v))) ∨
 ∃ kvs k b,H a=some (.dT kvs)/\y = .ref b/\H b=some (.tup (k.map kV))/\kvs.length < sizeLine/\H'=upd H a (.dT (putK kvs k v))
theorem aaY.k {H:Hp} {a:Addr} {kvs:List (Key×V)} {k:Key} (e:H a=some (.dK kvs)):aaY H a (kV k) (vL kvs k) := .inl ⟨kvs,k,.inl e,rfl,rfl⟩
theorem aaY.t {H:Hp} {a b:Addr} {k:List Key} (e:H a=some (.dT kvs)) (eb:H b=some (.tup (k.map kV))):aaY H a (.ref b) (vL kvs k) := .inr ⟨kvs,k,b,.inl e,rfl,eb,rfl⟩
theorem ah6.k {H:Hp} {a:Addr} {kvs:List (Key×V)} {k:Key} {v:V} (e:H a=some (.dK kvs)) (hl:kvs.length < sizeLine):ah6 H a (kV k) v (upd H a (.dK (putK kvs k v))) := .inl ⟨kvs,k,e,rfl,hl,rfl⟩
theorem ah6.t {H:Hp} {a b:Addr} {k:List Key} (e:H a=some (.dT kvs)) (eb:H b=some (.tup (k.map kV))) (hl:kvs.length < sizeLine) :
  ah6 H a (.ref b) v (upd H a (.dT (putK kvs k v))) := .inr ⟨kvs,k,b,e,rfl,eb,hl,rfl⟩
section
variable {X:Cx} {pins:List (Addr×Obj)} {σ:St} {H:Hp} {s:Shared} {a:Addr} {y v:V} {u r:Value} {o:Option V} {A:Around} {E:Value->Shared->Prop}
end
section
variable {X:Cx} {pins:List (Addr×Obj)} {σ:St} {H:Hp} {s:Shared} {a:Addr} {kvs:List (Key×V)} {k:Key} {u:Value} {A:Around} {E:Value->Shared->Prop}
end
section
variable {X:Cx} {o i e value:Expr} {pos pos' tpos:Pos} {td ty tv:TE}
end
section
variable {X:Cx} {pos:Pos}
end
structure M1 (X:Cx) (o:Expr) (m:Str) (apos:Pos) (e:Expr) (cpos:Pos):Prop where
 base:attributeBase o m X.env (eval o X.env)=eval o X.env
 few:((backTo cpos (starEach [e] X.env)).all (fun x=>!x.1)&&(backToKw cpos (keywordEach [] X.env)).all (fun x=>x.1.isSome)
  && decide (([e]:List Expr).length+([]:List Keyword).length+(if ([]:List Keyword).isEmpty then 0 else 1) < 30))=true
 line:(apos.endLine == cpos.line)=true
 trees:backTo cpos (starEach [e] X.env)=[(false,eval e X.env)]
section
variable {X:Cx} {pins:List (Addr×Obj)} {σ:St} {H:Hp} {s:Shared} {a:Addr} {y d:V} {u r:Value} {o:Option V} {A:Around} {E:Value->Shared->Prop}
end
section
variable {X:Cx} {o e f:Expr} {apos cpos:Pos} {td ty tx:TE}
end
section
variable {X:Cx} {pins:List (Addr×Obj)} {σ:St} {H:Hp} {s:Shared} {a:Addr} {kvs:List (Key×V)} {A:Around} {E:Value->Shared->Prop}
end
section
variable {X:Cx} {pins:List (Addr×Obj)} {σ:St} {H:Hp} {s:Shared} {a:Addr} {y:V} {u:Value} {A:Around} {E:Value->Shared->Prop}
end
end
end L2
namespace HT
open PySem PyProof.Rows
noncomputable def lexLt:List Int->List Int->Bool
 | [],[]=>false
 | [],_ :: _=>true
 | _ :: _,[]=>false
 | x :: xs,y :: ys=>if x=y then lexLt xs ys else decide (x < y)
theorem pN (x y:Int) (xs ys:List Int):lexLt (x :: xs) (y :: ys)=if x=y then lexLt xs ys else decide (x < y):=rfl
theorem ah7 (A:Around) (s:Shared) (a:Int) (t:Tok) (c:Int) (u:Tok):∃ e,SeqAt.EqAt A s (.int a t) (.int c u) e/\(e=true↔a=c) :=
 ⟨(a == c),SeqAt.EqAt.int_int a t c u,by simp⟩
theorem ah8 (A:Around) (s:Shared) (a:Int) (t:Tok) (c:Int) (u:Tok) (prog:Program) (w:World) (E:Value->Shared->Prop) (Q:Value->Shared->Prop) (h:Q (.bool (decide (a < c))) s) :
  wpAny (model prog w) A (richCompare .Lt (.int a t) (.int c u)) Q E s :=
 (PyProof.Rows.lt_int h:wpAny (model prog w) A (compareOp .Lt (.int a t) (.int c u)) Q E s)
section
open PySem.SeqAt
open PySem.AutoSeq1 (wpAny_loadPart')
open PySem.MeetsSeq PySem.MeetsSeq2 PySem.MeetsSeq3
end
variable {Q:Value->Shared->Prop}{sl:Addr}
section
variable {prog:Program} {w:World} {A:Around} {E:Value->Shared->Prop} {s:Shared}
theorem amO {t b:Addr} {vs ws:List Value} (ht:IsTup s.heap t vs.toArray) (hb:IsTup s.heap b ws.toArray) (hv:vs≠[])
  (h1:ws=[]->Q (.ref t) s) (h2:ws≠[]->Q (.ref s.heap.objs.size) { s with heap:=s.heap.push { cls := .type "tuple",data := .seq (vs++ws).toArray } })
  (hsz:vs.length+ws.length<=sizeLine):wpAny (model prog w) A (binaryOp .Add (.ref t) (.ref b)) Q E s:=by
 obtain ⟨⟨cls,dd,data,sl⟩,ho,hc,n,hd⟩:=id ht;obtain ⟨⟨cls2,dd2,data2,sl2⟩,ho2,hc2,n2,hd2⟩:=id hb;simp only at hc hd hc2 hd2;subst hc hd hc2 hd2;have e:vs.toArray++ws.toArray=(vs++ws).toArray:=by simp
 by_cases hw:ws=[]
 ·exact concat_meets ⟨_,ho,rfl⟩ ⟨_,ho2,rfl⟩ noFill_tuple_add seq_tuple_add PySem.F.slot_tuple_add PySem.F.entry_tuple_add (PySem.F.args_tuple_add_2 _ _)
   (tuple_addW1 t b vs.toArray ws.toArray n n2 dd dd2 sl sl2 (by simpa using hv) (by simp [hw])) ⟨ho,ho2,h1 hw⟩
 ·refine concat_meets ⟨_,ho,rfl⟩ ⟨_,ho2,rfl⟩ noFill_tuple_add seq_tuple_add PySem.F.slot_tuple_add PySem.F.entry_tuple_add (PySem.F.args_tuple_add_2 _ _)
   (tuple_addW2 t b vs.toArray ws.toArray n n2 dd dd2 sl sl2 (by simpa using hv) (by simpa using hw) (by rw [aq,aq];exact hsz)) ⟨ho,ho2,?_⟩
  rw [e];exact h2 hw
noncomputable def gR (n d:Nat):Option Int->Nat
 | none=>d
 | some v=>if v < 0 then (v+(n:Int)).toNat else min v.toNat n
theorem ah9 (n d:Nat):gR n d none=d:=rfl
theorem amP (n d k:Nat):gR n d (some (k:Int))=min k n:=by
 show (if (k:Int) < 0 then ((k:Int)+(n:Int)).toNat else min (k:Int).toNat n)=min k n;rw [if_neg (by omega),nj]
theorem at9 (n d:Nat) (hd:d<=n) (o:Option Int):gR n d o<=n:=by
 cases o with
 | none=>exact hd
 | some v =>
  show (if v < 0 then (v+(n:Int)).toNat else min v.toNat n)<=n;by_cases hv:v < 0
  ·rw [if_pos hv];omega
  ·rw [if_neg hv];exact Nat.min_le_right _ _
theorem acR (v:Int) (n d:Nat):(if v < 0 then max (v+(n:Int)) 0 else min v (n:Int))=((gR n d (some v):Nat):Int):=by
 show (if v < 0 then max (v+(n:Int)) 0 else min v (n:Int))=(((if v < 0 then (v+(n:Int)).toNat else min v.toNat n):Nat):Int);by_cases hv:v < 0
 ·simp only [if_pos hv];omega
 ·simp only [if_neg hv];omega
theorem aaZ (lo hi:Option Int) (n:Nat):Builtin.Slice.sliceAdjust lo hi 1 (n:Int)=(((gR n 0 lo:Nat):Int),((gR n n hi:Nat):Int)):=by
 have h1:¬ ((1:Int) < 0):=by omega
 unfold Builtin.Slice.sliceAdjust;simp only [h1,if_false];refine Prod.ext ?_ ?_
 ·cases lo with
  | none=>rfl
  | some v=>exact acR v n 0
 ·cases hi with
  | none=>rfl
  | some v=>exact acR v n n
theorem ab0 (i j:Nat):Builtin.Slice.slicePlaces (i:Int) (j:Int) 1=j - i:=by
 unfold Builtin.Slice.slicePlaces;have h1:(1:Int) > 0:=by omega
 simp only [h1,if_true,Int.ediv_one];split <;> omega
theorem a0S {v:Value} {o:Option Int} {Q:Option Int->Shared->Prop} (p:IsPart v o) (h:Q o s):wpAny (model prog w) A (Builtin.Slice.slicePartIndex v) Q E s:=by
 cases p with
 | none=>exact slicePart_none h
 | int i t=>exact slicePart_int h
theorem yN {vl vu:Value} {lo hi:Option Int} {n:Nat} {Q:Int×Int×Nat->Shared->Prop} (hs:s.heap.IsSliceOf sl vl vu .none) (pl:IsPart vl lo) (pu:IsPart vu hi)
  (h:Q (((gR n 0 lo:Nat):Int),1,gR n n hi - gR n 0 lo) s):wpAny (model prog w) A (Builtin.Slice.sliceApplied (.ref sl) (pure (n:Int))) Q E s:=by
 obtain ⟨os,hos,hcs,hds⟩:=id hs;unfold Builtin.Slice.sliceApplied Builtin.Slice.sliceFields;refine aj (aj (wpAny_field hos hds (x:=vl) rfl (aj (wpAny_field hos hds (x:=vu) rfl (aj (wpAny_field hos hds (x := .none) rfl (bh ?_)))))));refine aj (slicePart_none ?_);show wpAny _ _ (if ((1:Int) == 0)=true then _ else _) _ _ s;rw [if_neg (by decide)];refine aj (a0S pl (aj (a0S pu (aj (bh ?_)))));show wpAny _ _ (match Builtin.Slice.sliceAdjust lo hi 1 (n:Int) with | (lo,hi)=>pure (lo,(1:Int),Builtin.Slice.slicePlaces lo hi 1)) _ _ s;rw [aaZ lo hi n];show wpAny _ _ (pure (((gR n 0 lo:Nat):Int),(1:Int),Builtin.Slice.slicePlaces ((gR n 0 lo:Nat):Int) ((gR n n hi:Nat):Int) 1)) _ _ s;rw [ab0];exact bh h
theorem ahA (xs:Array Value) (i k:Nat):((dh k).filterMap fun (m:Nat)=>xs[((i:Int)+(m:Int) * 1).toNat]?).toArray=((xs.toList.drop i).take k).toArray:=by
 have e:(fun (m:Nat)=>xs[((i:Int)+(m:Int) * 1).toNat]?)=fun m=>xs[i+m]?:=by
  funext m;have:((i:Int)+(m:Int) * 1).toNat=i+m:=by omega
  rw [this]
 rw [e];have:=pick_run xs i k;rw [List.filterMap_map] at this;have e2:((fun x=>xs[x]?) ∘ fun x=>i+x)=fun m=>xs[i+m]?:=rfl;rw [e2] at this;rw [this]
theorem wN {t:Addr} {items:Array Value} {vl vu:Value} {lo hi:Option Int} (ht:IsTup s.heap t items) (hs:s.heap.IsSliceOf sl vl vu .none) (pl:IsPart vl lo) (pu:IsPart vu hi)
  (hw:¬ (gR items.size 0 lo=0/\gR items.size items.size hi=items.size))
  (h:Q (.ref s.heap.objs.size) { s with heap:=s.heap.push { cls := .type "tuple",data := .seq ((items.toList.drop (gR items.size 0 lo)).take (gR items.size items.size hi - gR items.size 0 lo)).toArray } })
  (hsz:items.size<=sizeLine):wpAny (model prog w) A (getItem (.ref t) (.ref sl)) Q E s:=by
 have acS:sizeOk (.seq ((items.toList.drop (gR items.size 0 lo)).take (gR items.size items.size hi - gR items.size 0 lo)).toArray):=by
  show ((items.toList.drop (gR items.size 0 lo)).take (gR items.size items.size hi - gR items.size 0 lo)).toArray.size<=sizeLine;rw [aq,qx,a0l,pq];omega
 have hj:gR items.size items.size hi<=items.size:=at9 _ _ (au _) hi;obtain ⟨os,hos,hcs,hds⟩:=id hs;have hTs:s.TypeIs (.ref sl) "slice" := ⟨os,hos,hcs⟩;unfold getItem
 try with_reducible refine wpAny_holding ?_
 first | refine aj (bh ?_) | skip
 refine aj (wpAny_sequenceKey ht.typeIs (by decide) ?_)
 refine aj (wpAny_callSpecial?_slot (name:=Str.ofString "__getitem__") ht.typeIs PyProof.Rows.slot_tuple_getitem
  (wpAny_call_entry PyProof.Rows.slot_tuple_getitem ht.typeIs entry_tuple_getitem ?_ (args_tuple_getitem _ _)))
 show wpAny _ _ (Builtin.Tuple.tupleItemsOf (.ref t) >>= _) _ _ s;refine aj (tupleItemsOf_ ht ?_);refine aj (wpAny_typeOf hTs ?_);rw [if_pos (by decide)];refine aj (yN hs pl pu ?_)
 have hno:¬ ((((gR items.size 0 lo:Nat):Int) == 0&&(1:Int) == 1&&(gR items.size items.size hi - gR items.size 0 lo) == items.size)=true):=by
  intro q;rw [ak,ak] at q;have q1:((gR items.size 0 lo:Nat):Int)=0:=eq_of_beq q.1.1;have q2:gR items.size items.size hi - gR items.size 0 lo=items.size:=eq_of_beq q.2;exact hw ⟨by omega,by omega⟩
 show wpAny _ _ (if (((gR items.size 0 lo:Nat):Int) == 0&&(1:Int) == 1&&(gR items.size items.size hi - gR items.size 0 lo) == items.size)=true then _ else _) _ _ s;rw [if_neg hno,ahA]
 first
  | exact aj (m:=Builtin.Tuple.tupleExact _) (wpAny_newObj_type (bh ⟨_,rfl,bh h⟩) acS)
  | exact aj (m:=Builtin.Tuple.tupleExact _) (wpAny_newObj_type (aj (bh (bh ⟨_,rfl,bh h⟩))) acS)
  | exact aj (aj (m:=Builtin.Tuple.tupleExact _) (wpAny_newObj_type (bh (bh ⟨_,rfl,bh h⟩)) acS))
  | exact aj (aj (m:=Builtin.Tuple.tupleExact _) (wpAny_newObj_type (bh ⟨_,rfl,bh h⟩) acS))
end
end HT
namespace L2
open PySem PySem.Spec PyProof.Rows
variable {r:V->Option Int->Option Int->Hp->VK->Prop}{xs:List V}{us:List Value}
section
abbrev TO:=St->Hp->(Option Int->Hp->Prop)->Prop
noncomputable def PO (X:Cx) (e:Option Expr) (t:TO):Prop :=
 ∀ (pins:List (Addr×Obj)) (s:Shared) (σ:St) (H:Hp) (Q:Option Int->Hp->Prop),Inv X pins σ H s->t σ H Q ->
  [Tk X.need s]->wpAny (model X.prog X.w) X.A (evalPart e X.env) (fun u s'=>∃ o H',Inv X pins σ H' s'/\IsPart u o/\Q o H') X.xe s
noncomputable def amQ:TO:=fun _ H Q=>Q none H
noncomputable def ayS (t:TE):TO:=fun σ H Q=>t σ H fun x H1=>∃ i,x = .int i/\Q (some i) H1
theorem intsAre_of {ns:List Int}:∀ {us:List Value},Vals (ns.map V.int) us->IntsAre us ns:=by
 induction ns with
 | nil=>intro us r;rw [a0s] at r;cases r;exact .nil
 | cons n ns ih =>
  intro us r;rw [jm] at r;cases r with
  | cons r1 r2 =>
   obtain ⟨t,e⟩:=r1;subst e;exact .cons n t (ih r2)
section
variable {X:Cx} {e:Expr} {te:TE} {lo hi:Option Expr} {tl th:TO} {pos p2:Pos}
theorem amR:PO X none amQ:=by
 intro pins s σ H Q I h _tk;rw [evalPart_none];exact bh ⟨none,H,I,.none,h⟩
theorem amS (h:PE X e te):PO X (some e) (ayS te):=by
 intro pins s σ H Q I hw;rw [evalPart_some];refine cL (h pins s σ H _ I hw) fun u s1 ⟨x,H1,I1,r1,q1⟩=>?_;obtain ⟨i,rfl,q⟩:=q1;obtain ⟨t,rfl⟩:=r1;exact ⟨some i,H1,I1,.int i t,q⟩
noncomputable def SlR (X:Cx) (r:V->Option Int->Option Int->Hp->VK->Prop):Prop :=
 ∀ (pins:List (Addr×Obj)) (s:Shared) (σ:St) (H:Hp) (x:V) (v vl vu:Value) (lo hi:Option Int) (sl:Addr) (Q:VK),Inv X pins σ H s->RelV x v->s.heap.IsSliceOf sl vl vu .none->IsPart vl lo->IsPart vu hi->r x lo hi H Q ->
  ∃ T id,typeLookup (.type T) "__getitem__" = pure (some (.builtin id))/\s.TypeIs v T/\wpAny (model X.prog X.w) X.A (getItem v (.ref sl)) (EP X pins σ Q) X.xe s
theorem SlR.or {r':V->Option Int->Option Int->Hp->VK->Prop} (h:SlR X r) (h':SlR X r'):SlR X (fun x lo hi H Q=>r x lo hi H Q∨r' x lo hi H Q):=by
 intro pins s σ H x v vl vu lo hi sl Q I rx hs pl pu q;rcases q with q | q
 ·exact h pins s σ H x v vl vu lo hi sl Q I rx hs pl pu q
 ·exact h' pins s σ H x v vl vu lo hi sl Q I rx hs pl pu q
noncomputable def tSl (r:V->Option Int->Option Int->Hp->VK->Prop) (te:TE) (tl th:TO):TE:=fun σ H Q=>te σ H fun x H1=>tl σ H1 fun l H2=>th σ H2 fun u H3=>r x l u H3 Q
theorem ahB (hr:SlR X r) (he:PE X e te) (hl:PO X lo tl) (hu:PO X hi th):PE X (.Subscript e (.Slice lo hi none p2) pos) (tSl r te tl th):=by
 intro pins s σ H Q I h _tk;refine Subscript_ (cL (he pins s σ H _ I h) fun v s1 ⟨x,H1,I1,r1,q1⟩=>?_);refine wpAny_Slice (cL (hl pins s1 σ H1 _ I1 q1) fun vl s2 ⟨l,H2,I2,pl,q2⟩=>cL (hu pins s2 σ H2 _ I2 q2) fun vu s3 ⟨u,H3,I3,pu,q3⟩=>?_);rw [evalPart_none];refine bh ?_;have I4:Inv X pins σ H3 { s3 with heap:=s3.heap.push { cls := .type "slice",data := .fields #[vl,vu,.none] } }:=I3.kept (t':=s3.toks) fun b ob q=>ao _ q;obtain ⟨T,id,hT,ht,hg⟩:=hr pins { s3 with heap:=s3.heap.push { cls := .type "slice",data := .fields #[vl,vu,.none] } } σ H3 x v vl vu l u s3.heap.objs.size Q I4 r1 (Heap.IsSliceOf.new ..) pl pu q3;show wpAny (model X.prog X.w) X.A (subscriptTail e (.Slice lo hi none p2) v (.ref s3.heap.objs.size)) (EP X pins σ Q) X.xe { s3 with heap:=s3.heap.push { cls := .type "slice",data := .fields #[vl,vu,.none] } };exact tail_any (ops:=[.ref s3.heap.objs.size,v]) ht hT hg (by with_unfolding_all rfl)
noncomputable def a3H (xs:List V) (lo hi:Option Int):List V:=(xs.drop (HT.gR xs.length 0 lo)).take (HT.gR xs.length xs.length hi - HT.gR xs.length 0 lo)
theorem zK (xs:List V) (lo hi:Option Int):(a3H xs lo hi).length<=xs.length:=by
 unfold a3H;rw [qx,a0l];omega
noncomputable def aDW (K:bw):V->Option Int->Option Int->Hp->VK->Prop:=fun x lo hi H Q=>∃ a xs,x = .ref a/\qQ K H a xs /\
 ¬ (HT.gR xs.length 0 lo=0/\HT.gR xs.length xs.length hi=xs.length)/\∀ p,H p=none->Q (.ref p) (upd H p (.tup (a3H xs lo hi)))
theorem atA:SlR X (aDW X.K):=by
 intro pins s σ H x v vl vu lo hi sl Q I rx hs pl pu h;obtain ⟨a,xs,rfl,hx,hw,q⟩:=h;cases rx;obtain ⟨its,r,ht,hz⟩:=I.tuple hx;have hlen:its.toArray.size=xs.length:=by rw [aq];exact r.length.symm
 refine ⟨"tuple",_,PyProof.Rows.slot_tuple_getitem.lookup,ht.typeIs,?_⟩;refine HT.wN ht hs pl pu (by rw [hlen];exact hw) ?_ (by rw [hlen];exact hz);rw [hlen];refine ⟨.ref s.heap.objs.size,_,I.laid (t':=s.toks) (o := .tup (a3H xs lo hi)) (fun b ob q=>ao _ q) (au _) ?_,rfl,q _ (I.hok.fresh (au _))⟩;exact ⟨ju (zK xs lo hi) hz,_,(r.drop (HT.gR xs.length 0 lo)).take (HT.gR xs.length xs.length hi - HT.gR xs.length 0 lo),IsTup.new _ _⟩
noncomputable def ayT (K:bw):R2:=fun x y H Q=>∃ a b xs ys,x = .ref a/\y = .ref b/\qQ K H a xs/\qQ K H b ys/\xs≠[]/\xs.length+ys.length<=sizeLine /\
 (ys=[]->Q (.ref a) H)/\(ys≠[]->∀ p,H p=none->Q (.ref p) (upd H p (.tup (xs++ys))))
theorem Vals.wO (r:Vals xs us):us=[]↔xs=[]:=by
 cases r with
 | nil=>simp
 | cons _ _=>simp
theorem amT:mQ X (binaryOp .Add) (ayT X.K):=by
 intro pins s σ H x y v u Q I rx ry h;obtain ⟨a,b,xs,ys,rfl,rfl,ha,hb,hx,hz,q1,q2⟩:=h;cases rx;cases ry;obtain ⟨its,r1,p1,_⟩:=I.tuple ha;obtain ⟨its2,r2,p2,_⟩:=I.tuple hb;refine HT.amO p1 p2 (fun z=>hx (r1.wO.mp z)) (fun z=>⟨.ref a,H,I,rfl,q1 (r2.wO.mp z)⟩) (fun z=>?_) (by rw [← r1.length,← r2.length];exact hz);refine ⟨.ref s.heap.objs.size,_,I.laid (t':=s.toks) (o := .tup (xs++ys)) (fun b ob q=>ao _ q) (au _) ?_,rfl,q2 (fun w=>z (r2.wO.mpr w)) _ (I.hok.fresh (au _))⟩;exact ⟨by rw [mj];exact hz,_,r1.append r2,IsTup.new _ _⟩
end
end
variable {pins:List (Addr×Obj)}{p:Addr}{its its':List Value}{u v:Value}
section
noncomputable def ixN (n:Nat) (i:Int):Option Nat:=if 0<=i then (if i < n then some i.toNat else none) else if -(n:Int)<=i then some (i+n).toNat else none
noncomputable def rJ {α:Type} (xs:List α) (i:Int):Option α:=(ixN xs.length i).bind fun j=>xs[j]?
theorem acT {n:Nat} {i:Int} {j:Nat} (h:ixN n i=some j):seqIndex? i n=some j/\j < n/\-(n:Int)<=i/\i < n:=by
 unfold ixN at h;by_cases h0:0<=i
 ·rw [if_pos h0] at h;by_cases h1:i < n
  ·rw [if_pos h1] at h;have e:i.toNat=j:=ig.inj h;exact ⟨by rw [seqIndex_of h0 h1,e],by omega,by omega,h1⟩
  ·rw [if_neg h1] at h;cases h
 ·rw [if_neg h0] at h;by_cases h1:-(n:Int)<=i
  ·rw [if_pos h1] at h;have e:(i+n).toNat=j:=ig.inj h;exact ⟨by rw [seqIndex_neg (by omega) h1,e],by omega,h1,by omega⟩
  ·rw [if_neg h1] at h;cases h
theorem a5W {α:Type} {xs:List α} {i:Int} {v:α} (h:rJ xs i=some v):∃ j,seqIndex? i xs.length=some j/\xs[j]?=some v/\j < xs.length/\-(xs.length:Int)<=i/\i < xs.length:=by
 unfold rJ at h;cases e:ixN xs.length i with
 | none=>rw [e] at h;cases h
 | some j =>
  rw [e] at h;obtain ⟨h1,h2,h3,h4⟩:=acT e;exact ⟨j,h1,h,h2,h3,h4⟩
def a5X (b:Expr):Prop:=∀ o i,subscripted b false o i=operate [o,i] (getItem o i)
noncomputable def IxR (X:Cx) (r:R2):Prop :=
 ∀ (value slice:Expr) (pins:List (Addr×Obj)) (s:Shared) (σ:St) (H:Hp) (x y:V) (v u:Value) (Q:VK),Inv X pins σ H s->RelV x v->RelV y u->r x y H Q ->
  subscripted slice false v u=operate [v,u] (getItem v u)->wpAny (model X.prog X.w) X.A (subscriptTail value slice v u) (EP X pins σ Q) X.xe s
noncomputable def MtR (X:Cx) (id:String) (r:V->List V->Hp->VK->Prop):Prop :=
 ∀ (pins:List (Addr×Obj)) (s:Shared) (σ:St) (H:Hp) (x:V) (xs:List V) (v:Value) (us:List Value) (Q:VK),Inv X pins σ H s->RelV x v->Vals xs us->r x xs H Q ->
  wpAny (model X.prog X.w) X.A (call (.builtin id) (v :: us)) (EP X pins σ Q) X.xe s
variable {r:R2}
section
variable {X:Cx} {a b:Expr} {ta tb:TE} {pos:Pos}
theorem IxR.or {r':R2} (h:IxR X r) (h':IxR X r'):IxR X (fun x y H Q=>r x y H Q∨r' x y H Q):=by
 intro value slice pins s σ H x y v u Q I rx ry q hs;rcases q with q | q
 ·exact h value slice pins s σ H x y v u Q I rx ry q hs
 ·exact h' value slice pins s σ H x y v u Q I rx ry q hs
theorem MtR.or {id:String} {r r':V->List V->Hp->VK->Prop} (h:MtR X id r) (h':MtR X id r'):MtR X id (fun x xs H Q=>r x xs H Q∨r' x xs H Q):=by
 intro pins s σ H x xs v us Q I rx rs q;rcases q with q | q
 ·exact h pins s σ H x xs v us Q I rx rs q
 ·exact h' pins s σ H x xs v us Q I rx rs q
theorem ayV (hr:IxR X r) (ha:PE X a ta) (hb:PE X b tb) (hs:a5X b):PE X (.Subscript a b pos) (tOp r ta tb):=by
 intro pins s σ H Q I h _tk;exact Subscript_ (asO ha hb I h fun v u s2 x y H2 I2 rx ry q=>hr a b pins s2 σ H2 x y v u Q I2 rx ry q (hs _ _))
noncomputable def ayW (K:bw):R2:=fun x y H Q=>∃ p xs i v,x = .ref p/\y = .int i/\rF K H p xs/\rJ xs i=some v/\Q v H
noncomputable def ayX (K:bw):R2:=fun x y H Q=>∃ p xs i v,x = .ref p/\y = .int i/\qQ K H p xs/\rJ xs i=some v/\Q v H
noncomputable def ayY:R2:=fun x y H Q=>∃ z i c,x = .str z/\y = .int i/\z.length<=sizeLine/\rJ z.cps.toList i=some c/\Q (.str ⟨#[c]⟩) H
theorem amV:IxR X (ayW X.K):=by
 intro value slice pins s σ H x y v u Q I rx ry h hs;obtain ⟨p,xs,i,z,rfl,rfl,hq,he,q⟩:=h;cases rx;obtain ⟨t,rfl⟩:=ry;obtain ⟨its,r,pl,hz⟩:=I.list hq;obtain ⟨j,h1,h2,h3,h4,h5⟩:=a5W he;obtain ⟨w,ew,mU⟩:=r.get h2;have hl:=r.length;have hn:=vJ;have fin:EP X pins σ Q w s:=⟨z,H,I,mU,q⟩;by_cases h0:0<=i
 ·have hj:i.toNat=j:=by
   rw [seqIndex_of h0 h5] at h1;exact ig.inj h1
  exact item_listR pl.isList h0 (by omega) (by rw [hj];simpa using ew) fin hs
 ·have hj:(i+(its.toArray.size:Int)).toNat=j:=by
   rw [seqIndex_neg (by omega) h4] at h1;rw [aq,← hl];exact ig.inj h1
  exact subscriptTail_builtinR (x:=w) pl.isList.typeIs slot_list_getitem.lookup
   (wpAny_getItem_list_neg (Q:=fun r s'=>r=w/\EP X pins σ Q r s') pl.isList (by omega) (by rw [aq] <;> omega) (by omega) (by rw [hj];simpa using ew) ⟨rfl,fin⟩) hs
theorem atB:IxR X (ayX X.K):=by
 intro value slice pins s σ H x y v u Q I rx ry h hs;obtain ⟨p,xs,i,z,rfl,rfl,hq,he,q⟩:=h;cases rx;obtain ⟨t,rfl⟩:=ry;obtain ⟨its,r,pl,hz⟩:=I.tuple hq;obtain ⟨j,h1,h2,h3,h4,h5⟩:=a5W he;obtain ⟨w,ew,mU⟩:=r.get h2;have hl:=r.length;have hn:=vJ;have fin:EP X pins σ Q w s:=⟨z,H,I,mU,q⟩
 exact subscriptTail_builtinR (x:=w) pl.typeIs slot_tuple_getitem.lookup
  (getItem_tuple (j:=j) (Q:=fun r s'=>r=w/\EP X pins σ Q r s') pl (by omega) (by omega) (by rw [aq,← hl];exact h1) (by simpa using ew) ⟨rfl,fin⟩) hs
theorem atD:IxR X ayY:=by
 intro value slice pins s σ H x y v u Q I rx ry h hs;obtain ⟨z,i,c,rfl,rfl,hz,he,q⟩:=h;obtain ⟨t,rfl⟩:=rx;obtain ⟨t',rfl⟩:=ry;obtain ⟨j,h1,h2,h3,h4,h5⟩:=a5W he;have hl:z.cps.toList.length=z.length:=by simp [Str.length]
 rw [hl] at h1 h4 h5;have hn:=vJ
 exact tail_any (typeIs_str s z t) slot_str_getitem.lookup (getItem_str (c:=c) (by
  have e1:decide (i < -(2 ^ 63:Int))=false:=decide_eq_false (by omega);have e2:decide (i≥2 ^ 63)=false:=decide_eq_false (by omega);rw [e1,e2,Bool.or_false]) (by rw [h1];simpa using h2) ⟨.str ⟨#[c]⟩,H,I.tok _,⟨_,rfl⟩,q⟩) hs
noncomputable def rIx (K:bw):R2:=fun x y H Q=>ayW K x y H Q∨ayX K x y H Q∨ayY x y H Q
theorem atE:IxR X (rIx X.K):=amV.or (atB.or atD)
theorem ab2 (its:List Value) (n j:Nat) (u:Value):Obj.mapSeq (·.setIfInBounds j u) { cls := .type "list",data := .seq its.toArray n }={ cls := .type "list",data := .seq (its.set j u).toArray n }:=by
 simp [Obj.mapSeq]
theorem Inv.lst {σ:St} {H:Hp} {s:Shared} (I:Inv X pins σ H s) (h:H p=some (.lst xs)) :
  ∃ (its:List Value) (n:Nat),Vals xs its/\s.heap.get? p=some { cls := .type "list",data := .seq its.toArray n }/\xs.length<=sizeLine:=by
 obtain ⟨z,its,n,r,e⟩:=I.hok p _ h;exact ⟨its,n,r,e,z⟩
theorem Inv.atF {σ:St} {H:Hp} {s:Shared} {ys:List V} {n n':Nat} {f:Obj->Obj} (I:Inv X pins σ H s) (h:H p=some (.lst xs))
  (ho:s.heap.get? p=some { cls := .type "list",data := .seq its.toArray n }) (hf:f { cls := .type "list",data := .seq its.toArray n }={ cls := .type "list",data := .seq its'.toArray n' }) (r:Vals ys its') (hz:ys.length<=sizeLine) (t:Nat) :
  Inv X pins σ (upd H p (.lst ys)) { s with heap:=s.heap.update p f,toks:=t }:=by
 have e:(s.heap.update p f).get? p=some { cls := .type "list",data := .seq its'.toArray n' }:=by
  rw [yp f ho (by rw [hf] <;> rfl),hf]
 refine I.write (x:=p) (e:=p) (by rw [h];trivial) (.inl rfl) (fun b u hb q=>(ou _ _ (Ne.symm hb)).trans q) ⟨_,e⟩ ?_;exact ⟨hz,its',n',r,e⟩
noncomputable def ayZ:V->V->V->Hp->(Hp->Prop)->Prop:=fun o i v H Q=>∃ p xs k j,o = .ref p/\i = .int k/\H p=some (.lst xs)/\ixN xs.length k=some j/\Q (upd H p (.lst (xs.set j v)))
theorem set_list:asH X ayZ:=by
 intro pins s σ H o i v ov iv u Q I ro ri rv h;obtain ⟨p,xs,k,j,rfl,rfl,hp,hj,q⟩:=h;cases ro;obtain ⟨t,rfl⟩:=ri;obtain ⟨its,n,r,ho,hz⟩:=I.lst hp;obtain ⟨h1,h2,h3,h4⟩:=acT hj;have hl:=r.length;have hn:=vJ
 have I':Inv X pins σ (upd H p (.lst (xs.set j v))) { s with heap:=s.heap.update p (Obj.mapSeq (·.setIfInBounds j u)) } :=
  I.atF hp ho (ab2 its n j u) (r.set rv j) (by rw [a0t];exact hz) s.toks
 by_cases h0:0<=k
 ·have hk:k.toNat=j:=by
   rw [seqIndex_of h0 h4] at h1;exact ig.inj h1
  exact PySem.W.ki_setAt ho h0 (by omega) (by rw [aq,← hl];exact h4) (by rw [hk];exact ⟨_,I',q⟩)
 ·have hk:(k+(its.toArray.size:Int)).toNat=j:=by
   rw [seqIndex_neg (by omega) h3] at h1;rw [aq,← hl];exact ig.inj h1
  exact PySem.W.ki_setBack ho (by omega) (by rw [aq,← hl];exact h3) (by omega) (by rw [hk];exact ⟨_,I',q⟩)
theorem a5Y (lo hi:Option Int) (n:Nat):(sliceBounds lo hi none n).1=((HT.gR n 0 lo:Nat):Int)/\(sliceBounds lo hi none n).2.1=((HT.gR n n hi:Nat):Int)/\(sliceBounds lo hi none n).2.2=1:=by
 refine ⟨?_,?_,rfl⟩
 ·cases lo with
  | none=>simp [sliceBounds,HT.gR]
  | some i =>
   simp only [sliceBounds,HT.gR,Option.getD_none,show (1:Int) > 0 by decide,if_true];by_cases h:i < 0
   ·simp only [h,if_true] <;> omega
   ·simp only [h,if_false] <;> omega
 ·cases hi with
  | none=>simp [sliceBounds,HT.gR]
  | some i =>
   simp only [sliceBounds,HT.gR,Option.getD_none,show (1:Int) > 0 by decide,if_true];by_cases h:i < 0
   ·simp only [h,if_true] <;> omega
   ·simp only [h,if_false] <;> omega
theorem a3I (its:List Value) (lo hi:Option Int):slicePick its.toArray lo hi none=((its.drop (HT.gR its.length 0 lo)).take (HT.gR its.length its.length hi - HT.gR its.length 0 lo)).toArray:=by
 obtain ⟨h1,h2,h3⟩:=a5Y lo hi its.toArray.size;unfold slicePick;rw [h1,h2,h3];simp only [sliceRange_one,pick_run,aq] <;> rfl
noncomputable def aDX (K:bw):V->Option Int->Option Int->Hp->VK->Prop:=fun x lo hi H Q=>∃ a xs,x = .ref a/\rF K H a xs/\∀ p,H p=none->Q (.ref p) (upd H p (.lst (a3H xs lo hi)))
theorem amW:SlR X (aDX X.K):=by
 intro pins s σ H x v vl vu lo hi sl Q I rx hs pl pu h;obtain ⟨a,xs,rfl,hx,q⟩:=h;cases rx;obtain ⟨its,r,ht,hz⟩:=I.list hx;have hlen:=r.length;refine ⟨"list",_,slot_list_getitem.lookup,ht.isList.typeIs,?_⟩;refine wpAny_getItem_list_slice ht.isList hs pl pu .none (by simp) ?_ (by rw [aq] <;> omega);rw [a3I,← hlen];refine ⟨.ref s.heap.objs.size,_,I.laid (t':=s.toks) (o := .lst (a3H xs lo hi)) (fun b ob q=>ao _ q) (au _) ?_,rfl,q _ (I.hok.fresh (au _))⟩;exact ⟨ju (zK xs lo hi) hz,_,0,(r.drop (HT.gR xs.length 0 lo)).take (HT.gR xs.length xs.length hi - HT.gR xs.length 0 lo),dw _ rfl⟩
noncomputable def qR:V->Bool
 | .non=>true
 | .bl _=>true
 | .int _=>true
 | .str _=>true
 | _=>false
noncomputable def eqV:V->V->Bool
 | .non,.non=>true
 | .bl a,.bl b=>a == b
 | .bl a,.int b=>(if a then 1 else 0) == b
 | .int a,.bl b=>a == (if b then 1 else 0)
 | .int a,.int b=>a == b
 | .str a,.str b=>a == b
 | _,_=>false
theorem yO {A:Around} {s:Shared} {y x:V} (ry:RelV y u) (rx:RelV x v) (fy:qR y=true) (fx:qR x=true):SeqAt.EqAt A s u v (eqV y x):=by
 cases y with
 | non =>
  cases ry;cases x with
  | non=>cases rx;exact SeqAt.EqAt.same _
  | bl b=>cases rx;exact SeqAt.EqAt.none_bool b
  | int b=>obtain ⟨t,rfl⟩:=rx;exact SeqAt.EqAt.none_int b t
  | str b=>obtain ⟨t,rfl⟩:=rx;exact SeqAt.EqAt.none_str b t
  | _=>exact absurd (show false=true from fx) jr
 | bl a =>
  cases ry;cases x with
  | non=>cases rx;exact SeqAt.EqAt.bool_none a
  | bl b=>cases rx;exact SeqAt.EqAt.bool_bool a b
  | int b=>obtain ⟨t,rfl⟩:=rx;exact SeqAt.EqAt.bool_int a b t
  | str b=>obtain ⟨t,rfl⟩:=rx;exact SeqAt.EqAt.bool_str a b t
  | _=>exact absurd (show false=true from fx) jr
 | int a =>
  obtain ⟨t',rfl⟩:=ry;cases x with
  | non=>cases rx;exact SeqAt.EqAt.int_none a t'
  | bl b=>cases rx;exact SeqAt.EqAt.int_bool a t' b
  | int b=>obtain ⟨t,rfl⟩:=rx;exact SeqAt.EqAt.int_int a t' b t
  | str b=>obtain ⟨t,rfl⟩:=rx;exact SeqAt.EqAt.int_str a t' b t
  | _=>exact absurd (show false=true from fx) jr
 | str a =>
  obtain ⟨t',rfl⟩:=ry;cases x with
  | non=>cases rx;exact SeqAt.EqAt.str_none a t'
  | bl b=>cases rx;exact SeqAt.EqAt.str_bool a t' b
  | int b=>obtain ⟨t,rfl⟩:=rx;exact SeqAt.EqAt.str_int a t' b t
  | str b=>obtain ⟨t,rfl⟩:=rx;exact SeqAt.EqAt.str_str a t' b t
  | _=>exact absurd (show false=true from fx) jr
 | _=>exact absurd (show false=true from fy) jr
noncomputable def eqU (x:V) (u:Value):Bool:=match u with
 | .none=>eqV .non x
 | .bool b=>eqV (.bl b) x
 | .int i _=>eqV (.int i) x
 | .str z _=>eqV (.str z) x
 | _=>false
theorem ahC {x y:V} (r:RelV y u) (f:qR y=true):eqU x u=eqV y x:=by
 cases y with
 | non=>cases r;rfl
 | bl b=>cases r;rfl
 | int i=>obtain ⟨t,rfl⟩:=r;rfl
 | str z=>obtain ⟨t,rfl⟩:=r;rfl
 | _=>exact absurd (show false=true from f) jr
theorem wQ {x:V}:∀ {xs:List V} {us:List Value},Vals xs us->xs.all qR=true->us.any (eqU x)=xs.any fun y=>eqV y x
 | _,_,.nil,_=>rfl
 | y :: xs,u :: us,.cons r t,f=>by
  rw [qz,ak] at f;rw [wz,wz,ahC r f.1,wQ t f.2]
theorem rK {A:Around} {s:Shared} {x:V} {v:Value} (rx:RelV x v) (fx:qR x=true):∀ {xs:List V} {us:List Value},Vals xs us->xs.all qR=true->∀ u∈us,SeqAt.EqAt A s u v (eqU x u)
 | _,_,.nil,_=>fun u hu=>by cases hu
 | y :: xs,u :: us,.cons r t,f=>fun u' hu=>by
  rw [qz,ak] at f;rcases jc.mp hu with rfl | hu
  ·rw [ahC r f.1];exact yO r rx f.1 fx
  ·exact rK rx fx t f.2 u' hu
noncomputable def inV (x:V) (xs:List V):Bool:=xs.any fun y=>eqV y x
noncomputable def rIn (K:bw) (neg:Bool):R2:=fun x y H Q=>∃ p xs,y = .ref p/\(rF K H p xs∨qQ K H p xs)/\qR x=true/\xs.all qR=true/\Q (.bl (if neg then !inV x xs else inV x xs)) H
theorem afA:mQ X (compareOp .In) (rIn X.K false):=by
 intro pins s σ H x y v u Q I rx ry h;obtain ⟨p,xs,rfl,hq,fx,fs,q⟩:=h;cases ry;rcases hq with hq | hq
 ·obtain ⟨its,r,pl,hz⟩:=I.list hq;refine SeqAt.in_listAt (eqU x) pl.isList (fun w hw=>rK rx fx r fs w (by simpa using hw)) ⟨.bl _,H,I,rfl,?_⟩;rw [show its.toArray.any (eqU x)=its.any (eqU x) by simp,wQ r fs];exact q
 ·obtain ⟨its,r,pl,hz⟩:=I.tuple hq;refine SeqAt.in_tupleAt (eqU x) pl (fun w hw=>rK rx fx r fs w (by simpa using hw)) ⟨.bl _,H,I,rfl,?_⟩;rw [show its.toArray.any (eqU x)=its.any (eqU x) by simp,wQ r fs];exact q
theorem a5Z:mQ X (compareOp .NotIn) (rIn X.K true):=by
 intro pins s σ H x y v u Q I rx ry h;obtain ⟨p,xs,rfl,hq,fx,fs,q⟩:=h;cases ry;rcases hq with hq | hq
 ·obtain ⟨its,r,pl,hz⟩:=I.list hq;refine SeqAt.notIn_listAt (eqU x) pl.isList (fun w hw=>rK rx fx r fs w (by simpa using hw)) ⟨.bl _,H,I,rfl,?_⟩;rw [show its.toArray.any (eqU x)=its.any (eqU x) by simp,wQ r fs];exact q
 ·obtain ⟨its,r,pl,hz⟩:=I.tuple hq;refine SeqAt.notIn_tupleAt (eqU x) pl (fun w hw=>rK rx fx r fs w (by simpa using hw)) ⟨.bl _,H,I,rfl,?_⟩;rw [show its.toArray.any (eqU x)=its.any (eqU x) by simp,wQ r fs];exact q
theorem a65:oM X (.builtin "len") (fun xs H Q=>∃ p ys,xs=[.ref p]/\(rF X.K H p ys∨qQ X.K H p ys)/\Q (.int ys.length) H):=by
 intro pins s σ H xs us Q I r h;obtain ⟨p,ys,rfl,hq,q⟩:=h;obtain ⟨u,rfl,rx⟩:=vals1 r;cases rx;have hn:=vJ;rcases hq with hq | hq
 ·obtain ⟨its,r',pl,hz⟩:=I.list hq;have hlen:=r'.length;exact Calls.call_len_list pl.isList (by simp only [aq] <;> omega) ⟨.int ys.length,H,I.tok _,⟨s.toks+1,by rw [aq,hlen]⟩,q⟩
 ·obtain ⟨its,r',pl,hz⟩:=I.tuple hq;have hlen:=r'.length;exact len_tuple pl (by simp only [aq] <;> omega) ⟨.int ys.length,H,I.tok _,⟨s.toks+1,by rw [aq,hlen]⟩,q⟩
theorem a66:oM X (.builtin "len") (fun xs H Q=>∃ z,xs=[.str z]/\z.length<=sizeLine/\Q (.int z.length) H):=by
 intro pins s σ H xs us Q I r h;obtain ⟨z,rfl,hz,q⟩:=h;obtain ⟨u,rfl,t,rfl⟩:=vals1 r;have hn:=vJ;exact len_str (by omega) ⟨.int z.length,H,I.tok _,⟨_,rfl⟩,q⟩
theorem oM.or {f:Value} {r r':List V->Hp->VK->Prop} (h:oM X f r) (h':oM X f r'):oM X f (fun xs H Q=>r xs H Q∨r' xs H Q):=by
 intro pins s σ H xs us Q I rs q;rcases q with q | q
 ·exact h pins s σ H xs us Q I rs q
 ·exact h' pins s σ H xs us Q I rs q
theorem a67:oM X (.type "list") (fun xs H Q=>∃ p ys,xs=[.ref p]/\(rF X.K H p ys∨qQ X.K H p ys)/\∀ l,H l=none->Q (.ref l) (upd H l (.lst ys))):=by
 intro pins s σ H xs us Q I r h;obtain ⟨p,ys,rfl,hq,q⟩:=h;obtain ⟨u,rfl,rx⟩:=vals1 r;cases rx
 have fin:∀ (its:List Value),Vals ys its->ys.length<=sizeLine->∀ (h':Heap) (c':Nat),(∀ b o',s.heap.get? b=some o'->h'.get? b=some o') ->
   h'.get? s.heap.objs.size=some { cls := .type "list",dict:=none,data := .seq its.toArray c',slots:=#[] }->EP X pins σ Q (.ref s.heap.objs.size) { s with heap:=h' }:=fun its r' hz h' c' kp e =>
  ⟨.ref s.heap.objs.size,_,I.laid (t':=s.toks) kp (au _) (show iR X.prog X.w _ h' _ (.lst ys) from ⟨hz,its,c',r',e⟩),rfl,q _ (I.hok.fresh (au _))⟩
 rcases hq with hq | hq
 ·obtain ⟨its,r',pl,hz⟩:=I.list hq;have hlen:=r'.length;obtain ⟨o,ho,hc,n,hd⟩:=pl.isList;exact call_list_seq p (.inl rfl) ho hc hd (fun h' c' kp e=>fin its r' hz h' c' kp e) (by simp only [aq] <;> omega)
 ·obtain ⟨its,r',pl,hz⟩:=I.tuple hq;have hlen:=r'.length;obtain ⟨o,ho,hc,n,hd⟩:=pl;exact call_list_seq p (.inr rfl) ho hc hd (fun h' c' kp e=>fin its r' hz h' c' kp e) (by simp only [aq] <;> omega)
theorem a3J:oM X (.type "tuple") (fun xs H Q=>∃ p ys,xs=[.ref p]/\((rF X.K H p ys/\∀ l,H l=none->Q (.ref l) (upd H l (.tup ys)))∨(qQ X.K H p ys/\Q (.ref p) H))):=by
 intro pins s σ H xs us Q I r h;obtain ⟨p,ys,rfl,h⟩:=h;obtain ⟨u,rfl,rx⟩:=vals1 r;cases rx;rcases h with ⟨hq,q⟩ | ⟨hq,q⟩
 ·obtain ⟨its,r',pl,hz⟩:=I.list hq;have hlen:=r'.length;refine call_tuple_list pl.isList (fun h' kp=>?_) (by simp only [aq] <;> omega);have I1:Inv X pins σ H { s with heap:=h' }:=I.kept (t':=s.toks) kp
  have I2:Inv X pins σ (upd H h'.objs.size (.tup ys)) { s with heap:=h'.push { cls := .type "tuple",data := .seq its.toArray } } :=
   I1.laid (t':=s.toks) (fun b o e=>ao _ e) (au _) (show iR X.prog X.w _ _ _ (.tup ys) from ⟨hz,its,r',IsTup.new _ _⟩)
  exact ⟨.ref h'.objs.size,_,I2,rfl,q _ (I1.hok.fresh (au _))⟩
 ·obtain ⟨its,r',pl,hz⟩:=I.tuple hq;exact call_tuple_same pl ⟨.ref p,H,I,rfl,q⟩
def tyV (K:bw) (T:String) (x:V) (H:Hp):Prop:=match x with
 | .str _=>T = "str"
 | .int _=>T = "int"
 | .ref p=>(T = "list" /\ ∃ xs,rF K H p xs)∨(T = "tuple" /\ ∃ o,K.lookup p=some o/\o.cls = .type "tuple" /\ o.dict=none) ∨
   (T = "dict" /\ ((∃ kvs,H p=some (.dK kvs))∨∃ kvs,H p=some (.dT kvs)))∨(T = "set" /\ ∃ S n,H p=some (.set S n))
 | _=>False
theorem ahD {σ:St} {H:Hp} {s:Shared} {T:String} {x:V} (I:Inv X pins σ H s) (r:RelV x v) (ty:tyV X.K T x H) :
  s.TypeIs v T/\∀ a,v = .ref a->∃ ob,s.heap.get? a=some ob/\ob.dict=none:=by
 cases x with
 | str z =>
  obtain ⟨t,rfl⟩:=r;cases (show T = "str" from ty);exact ⟨typeIs_str s z t,fun _ e=>nomatch e⟩
 | int i =>
  obtain ⟨t,rfl⟩:=r;cases (show T = "int" from ty);exact ⟨typeIs_int s i t,fun _ e=>nomatch e⟩
 | ref p =>
  cases r;rcases ty with ⟨rfl,xs,hq⟩ | ⟨rfl,o,hk,hc,hd⟩ | ⟨rfl,hk⟩ | ⟨rfl,S,n,hk⟩
  ·obtain ⟨its,_,pl,_⟩:=I.list hq;refine ⟨pl.isList.typeIs,fun a e=>?_⟩;cases e;obtain ⟨o,n,e,c,hd,_⟩:=pl;exact ⟨o,e,hd⟩
  ·refine ⟨⟨o,I.kIn p o hk,hc⟩,fun a e=>?_⟩;cases e;exact ⟨o,I.kIn _ o hk,hd⟩
  ·have z:∃ o,s.heap.get? p=some o/\o.ExactDict:=by
    rcases hk with ⟨kvs,hk⟩ | ⟨kvs,hk⟩
    ·obtain ⟨_,_,_,_,o,_,_,e,ex,_⟩:=I.hok p _ hk;exact ⟨o,e,ex⟩
    ·obtain ⟨_,_,_,_,o,_,_,e,ex,_⟩:=I.hok p _ hk;exact ⟨o,e,ex⟩
   obtain ⟨o,e,ex⟩:=z;refine ⟨⟨o,e,ex.1⟩,fun a e2=>?_⟩;cases e2;exact ⟨o,e,ex.2.1⟩
  ·obtain ⟨o,_,_,_,e,ex,_⟩:=I.hok p _ hk;refine ⟨⟨o,e,ex.1⟩,fun a e2=>?_⟩;cases e2;exact ⟨o,e,ex.2.1⟩
 | _=>exact False.elim ty
variable {o e:Expr} {es:List Expr} {to:TE} {t:TA} {name:Str} {apos cpos:Pos} {T id:String} {r:V->List V->Hp->VK->Prop}
end
end
variable {t':Nat}
section
noncomputable def MtM (X:Cx) (id:String) (r:V->List V->Hp->VK->Prop):Prop :=
 ∀ (pins:List (Addr×Obj)) (s:Shared) (σ:St) (H:Hp) (x:V) (xs:List V) (v:Value) (us:List Value) (Q:VK),Inv X pins σ H s->RelV x v->Vals xs us->r x xs H Q ->
  wpAny (model X.prog X.w) X.A (call (.builtin id) (v :: us)) (EP X pins σ Q) X.xe s
theorem Vals.one:∀ {x:V} {us:List Value},Vals [x] us->∃ u,us=[u]/\RelV x u
 | _,_,.cons r .nil=>⟨_,rfl,r⟩
theorem Vals.zero:∀ {us:List Value},Vals [] us->us=[]
 | _,.nil=>rfl
theorem Vals.dropLast (h:Vals xs us):Vals xs.dropLast us.dropLast:=by
 induction h with
 | nil=>exact .nil
 | cons r t ih =>
  cases t with
  | nil=>exact .nil
  | cons q t'=>exact .cons r ih
theorem Vals.eraseIdx:∀ {xs:List V} {us:List Value} (i:Nat),Vals xs us->Vals (xs.eraseIdx i) (us.eraseIdx i)
 | _,_,_,.nil => .nil
 | _,_,0,.cons _ t=>t
 | _,_,i+1,.cons r t => .cons r (Vals.eraseIdx i t)
theorem Vals.reverse (h:Vals xs us):Vals xs.reverse us.reverse:=by
 induction h with
 | nil=>exact .nil
 | cons r t ih=>rw [List.reverse_cons,List.reverse_cons];exact Vals.append ih (.cons r .nil)
theorem Vals.rep {xs:List V} {us:List Value} (h:Vals xs us):∀ k:Nat,Vals (gq k xs).flatten (gq k us).flatten
 | 0 => .nil
 | k+1=>by
  rw [tu,tu,vo,vo];exact Vals.append h (Vals.rep h k)
theorem ab4 {α:Type} (l:List α):l.eraseIdx (l.length - 1)=l.dropLast:=by
 induction l with
 | nil=>rfl
 | cons a r ih =>
  cases r with
  | nil=>rfl
  | cons b r =>
   have e:(a :: b :: r).length - 1=((b :: r).length - 1)+1:=by
    have h1:(a :: b :: r).length=r.length+2:=rfl;have h2:(b :: r).length=r.length+1:=rfl;omega
   rw [e,List.eraseIdx_cons_succ,ih]
   all_goals rfl
theorem foldl_rep (its:List Value):∀ (k:Nat) (acc:List Value),
  List.foldl (fun x1 x2=>x1++x2) acc.toArray (gq k its.toArray)=(acc++(gq k its).flatten).toArray
 | 0,acc=>by simp
 | k+1,acc=>by
  have e:acc.toArray++its.toArray=(acc++its).toArray:=by simp
  have e2:(acc++its)++(gq k its).flatten=acc++(gq (k+1) its).flatten:=by
   rw [tu,vo,jz]
  rw [← e2,← foldl_rep its k (acc++its),← e,tu,List.foldl_cons]
section
variable {X:Cx} {pins:List (Addr×Obj)} {σ:St} {H:Hp} {s:Shared} {l b:Addr} {xs ys zs:List V}
theorem Inv.amX {n:Nat} {f:Array Value->Array Value} (I:Inv X pins σ H s) (hH:H l=some (.lst xs))
  (e:s.heap.get? l=some { cls := .type "list",data := .seq its.toArray n }) (hf:f its.toArray=its'.toArray) (hv:Vals ys its') (hz:ys.length<=sizeLine) :
  Inv X pins σ (upd H l (.lst ys)) { s with heap:=s.heap.update l (Obj.mapSeq f),toks:=t' }:=by
 have q:=PySem.IsL.update e f;rw [hf] at q;refine I.write (x:=l) (e:=l) (by rw [hH];exact trivial) (.inl rfl) (fun b' u hb hu=>(ou s.heap (Obj.mapSeq f) (Ne.symm hb)).trans hu) ⟨_,q⟩ ?_;exact ⟨hz,its',_,hv,q⟩
theorem Inv.atG (I:Inv X pins σ H s) (hv:Vals ys its) (hz:ys.length<=sizeLine) :
  Inv X pins σ (upd H s.heap.objs.size (.lst ys)) { s with heap:=s.heap.push { cls := .type "list",data := .seq its.toArray },toks:=t' } :=
 I.laid (fun _ _ q=>ao _ q) (au _) ⟨hz,its,0,hv,dw _ rfl⟩
theorem Inv.fresh (I:Inv X pins σ H s):H s.heap.objs.size=none:=I.hok.fresh (au _)
theorem Inv.a8J (I:Inv X pins σ H s) (hH:H l=some (.lst xs)):xs.length<=sizeLine/\∃ (its:List Value) (n:Nat),Vals xs its/\xs.length=its.length/\s.heap.get? l=some { cls := .type "list",data := .seq its.toArray n }:=by
 obtain ⟨z,its,n,r,e⟩:=I.hok l _ hH;exact ⟨z,its,n,r,r.length,e⟩
theorem a8K {n:Nat} (h:n<=sizeLine):Builtin.List.listTooLong n=false:=by
 unfold Builtin.List.listTooLong;exact decide_eq_false (by omega)
end
section
variable {X:Cx}
noncomputable def amY:V->List V->Hp->VK->Prop:=fun x vs H Q=>∃ l xs y,x = .ref l/\vs=[y]/\H l=some (.lst xs)/\xs.length < sizeLine/\Q .non (upd H l (.lst (xs++[y])))
theorem a4I:MtM X "list.append" amY:=by
 intro pins s σ H x vs v us Q I rx rv h;obtain ⟨l,xs,y,rfl,rfl,hH,hz,q⟩:=h;cases rx;obtain ⟨u,rfl,ru⟩:=rv.one;obtain ⟨z,its,n,r,hl,e⟩:=I.a8J hH;refine call_meets F.slot_list_append ⟨_,e,rfl⟩ F.entry_list_append (F.args_list_append_2 _ _) (PySem.list_append l its.toArray n u (by rw [aq];omega)) ⟨e,?_⟩;refine ⟨.non,_,I.amX (its':=its++[u]) hH e (by simp) (r.append (.cons ru .nil)) ?_,rfl,q⟩;rw [mj,List.length_singleton];omega
noncomputable def amZ:V->List V->Hp->VK->Prop:=fun x vs H Q=>∃ l b xs zs,x = .ref l/\vs=[.ref b]/\H l=some (.lst xs)/\H b=some (.lst zs)/\xs.length+zs.length<=sizeLine/\Q .non (upd H l (.lst (xs++zs)))
theorem afB:MtM X "list.extend" amZ:=by
 intro pins s σ H x vs v us Q I rx rv h;obtain ⟨l,b,xs,zs,rfl,rfl,hH,hB,hz,q⟩:=h;cases rx;obtain ⟨u,rfl,ru⟩:=rv.one;cases ru;obtain ⟨z,its,n,r,hl,e⟩:=I.a8J hH;obtain ⟨z2,its2,n2,r2,hl2,e2⟩:=I.a8J hB;have hsz:its.toArray.size+its2.toArray.size<=sizeLine:=by rw [aq,aq];omega
 have ahE:¬ (!its.toArray.isEmpty&&Builtin.List.listTooLong (its.toArray.size+its2.toArray.size))=true:=by
  rw [a8K hsz,Bool.and_false];exact jr
 refine call_meets F.slot_list_extend ⟨_,e,rfl⟩ F.entry_list_extend (F.args_list_extend_2 _ _)
  (AutoSeq1.list_extend_list_list_0 l its.toArray n b its2.toArray n2 ahE (by rw [aq];omega) (by omega)) ⟨e,e2,?_⟩
 refine ⟨.non,_,I.amX (its':=its++its2) hH e (by simp) (r.append r2) ?_,rfl,q⟩;rw [mj];omega
noncomputable def aDY:V->List V->Hp->VK->Prop:=fun x vs H Q=>∃ l xs y,x = .ref l/\vs=[]/\H l=some (.lst xs)/\xs[xs.length - 1]?=some y/\Q y (upd H l (.lst xs.dropLast))
theorem atH:MtM X "list.pop" aDY:=by
 intro pins s σ H x vs v us Q I rx rv h;obtain ⟨l,xs,y,rfl,rfl,hH,hy,q⟩:=h;cases rx;have hus:=rv.zero;subst hus;obtain ⟨z,its,n,r,hl,e⟩:=I.a8J hH;obtain ⟨u,hu,ru⟩:=r.get hy
 have hy':its.toArray[its.toArray.size - 1]?=some u:=by
  show its.toArray[its.length - 1]?=some u;rw [← Array.getElem?_toList,← hl];exact hu
 refine call_meets F.slot_list_pop ⟨_,e,rfl⟩ F.entry_list_pop (F.args_list_pop_1 _) (MeetsSeq.list_pop_last l its.toArray n u hy' (by rw [aq];omega)) ⟨e,?_⟩;refine ⟨y,_,I.amX (its':=its.dropLast) hH e ?_ r.dropLast ?_,ru,q⟩
 ·show its.toArray.eraseIdxIfInBounds (its.toArray.size - 1)=its.dropLast.toArray;rw [aq,List.eraseIdxIfInBounds_toArray,ab4]
 ·rw [List.length_dropLast];omega
noncomputable def atJ:V->List V->Hp->VK->Prop:=fun x vs H Q=>∃ l xs,x = .ref l/\vs=[]/\H l=some (.lst xs)/\Q .non (upd H l (.lst []))
theorem ahF:MtM X "list.clear" atJ:=by
 intro pins s σ H x vs v us Q I rx rv h;obtain ⟨l,xs,rfl,rfl,hH,q⟩:=h;cases rx;have hus:=rv.zero;subst hus;obtain ⟨z,its,n,r,hl,e⟩:=I.a8J hH;refine call_meets F.slot_list_clear ⟨_,e,rfl⟩ F.entry_list_clear (F.args_list_clear_1 _) (AutoSeq1.list_clear_list_0 l its.toArray n (by rw [aq];omega)) ⟨e,?_⟩;exact ⟨.non,_,I.amX (its':=[]) (ys:=[]) hH e rfl .nil (je _),rfl,q⟩
noncomputable def aDZ:R2:=fun x y H Q=>∃ l b xs zs,x = .ref l/\y = .ref b/\H l=some (.lst xs)/\H b=some (.lst zs)/\xs.length+zs.length<=sizeLine/\∀ p,H p=none->Q (.ref p) (upd H p (.lst (xs++zs)))
theorem atL:mQ X (binaryOp .Add) aDZ:=by
 intro pins s σ H x y v u Q I rx ry h;obtain ⟨l,b,xs,zs,rfl,rfl,hH,hB,hz,q⟩:=h;cases rx;cases ry;obtain ⟨z,its,n,r,hl,e⟩:=I.a8J hH;obtain ⟨z2,its2,n2,r2,hl2,e2⟩:=I.a8J hB;refine PySem.P.add_list e e2 ?_ (by rw [aq,aq];omega);have ea:its.toArray++its2.toArray=(its++its2).toArray:=by simp
 rw [ea];exact ⟨.ref _,_,I.atG (t':=s.toks) (r.append r2) (by rw [mj];omega),rfl,q _ I.fresh⟩
noncomputable def aE0:R2:=fun x y H Q=>∃ l k xs,x = .ref l/\y = .int k/\H l=some (.lst xs)/\-(2 ^ 63)<=k/\k < 2 ^ 63/\xs.length * k.toNat<=sizeLine /\
 ∀ p,H p=none->Q (.ref p) (upd H p (.lst (gq k.toNat xs).flatten))
theorem len_rep {α:Type} (xs:List α) (k:Nat):(gq k xs).flatten.length=k * xs.length:=by
 induction k with
 | zero=>simp
 | succ k ih=>rw [tu,vo,mj,ih,Nat.succ_mul,Nat.add_comm]
theorem atM:mQ X (binaryOp .Mult) aE0:=by
 intro pins s σ H x y v u Q I rx ry h;obtain ⟨l,k,xs,rfl,rfl,hH,h1,h2,hz,q⟩:=h;cases rx;obtain ⟨t,rfl⟩:=ry;obtain ⟨z,its,n,r,hl,e⟩:=I.a8J hH;have hlen:its.toArray.size * k.toNat<=sizeLine:=by rw [aq,← hl];exact hz
 have hcap:¬ its.toArray.size * k.toNat > (2 ^ 63 - 1) / 8:=by
  have:(sizeLine:Nat)<=(2 ^ 63 - 1) / 8:=by decide
  omega
 have hfit:¬ (!Builtin.List.listFitsIndex k)=true:=by
  rw [fitsIndex_both h1 h2];exact jr
 have ahE:¬ Builtin.List.listTooLong (its.toArray.size * k.toNat)=true:=by
  rw [a8K hlen];exact jr
 have hnew:List.foldl (fun x1 x2=>x1++x2) #[] (gq (if its.toArray.isEmpty=true then 0 else k.toNat) its.toArray)=(gq k.toNat its).flatten.toArray:=by
  have f0:∀ m:Nat,List.foldl (fun x1 x2=>x1++x2) #[] (gq m its.toArray)=(gq m its).flatten.toArray:=fun m=>by
   have:=foldl_rep its m [];rw [a0u] at this;exact this
  rw [f0];cases its with
  | nil=>simp
  | cons a r'=>rw [if_neg (by simp)]
 refine wpAny_binaryOp_repeat_ref (T := "list") (U := "int") (by decide) ⟨_,e,rfl⟩ (fun s'=>typeIs_int s' k t) noFill_list_mul F.fills_int_mul F.slot_int_rmul repeat_list F.slot_int_index.lookup
  (call_meets F.slot_int_rmul (typeIs_int s k t) F.entry_int_rmul (F.args_int_rmul_2 _ _) (int___rmul___int_list k t l its.toArray n)
   ⟨e,rfl,⟨_,e,rfl⟩,call_meets F.slot_list_mul ⟨_,e,rfl⟩ F.entry_list_mul (F.args_list_mul_2 _ _) (AutoListH.list___mul___list_int_3 l its.toArray n k t hfit hcap ahE) ⟨e,?_⟩⟩)
 rw [hnew];exact ⟨.ref _,_,I.atG (t':=s.toks) (r.rep k.toNat) (by rw [len_rep,Nat.mul_comm];exact hz),rfl,q _ I.fresh⟩
end
section
variable {prog:Program} {w:World} {A:Around} {E:Value->Shared->Prop} {s:Shared}
end
section
variable {X:Cx}
end
end
end L2
namespace Att
open PySem PySem.W PySem.Calls PyProof.Rows
variable {P:Params}{h:Heap}
theorem a06:∀ (ns:List Int) (vs:List Value),WellAll P h vs (ns.map WData.int)->IntsAre vs ns:=by
 intro ns
 induction ns with
 | nil =>
  intro vs w;rw [a0s] at w;cases w;exact .nil
 | cons n ns ih =>
  intro vs w;rw [jm] at w;cases w with
  | cons a b =>
   cases a;exact .cons _ _ (ih _ b)
variable {l:OpenLaw}
theorem afC {n:Nat} (hn:l.most=some n) {args:List WData} {vals:List Value}
  (hpre:l.row.toRowW.claim.pre args=true) (hwl:WellAll P h vals args) :
  ∃ a vs ns,vals=[Value.ref a]/\args=[WData.list (ns.map WData.int)]/\h.get? a=some { cls := .type "list",data := .seq vs.toArray }/\IntsAre vs ns/\ns.length<=n:=by
 have hsh:WShape.hasAll [] args [.list .int]=true:=(pre_splitW hpre).1;have hc:l.pre.holds [] { args:=args }=true:=(pre_splitW hpre).2;obtain ⟨d,r,rfl,h1,h2⟩:=hasAllW_cons hsh;obtain rfl:=hasAllW_nil h2;obtain ⟨xs,rfl,h3⟩:=hasW_list h1;obtain ⟨ns,rfl⟩:=items_int h3
 have hlen:ns.length<=n:=by
  unfold OpenLaw.pre at hc
  have h4:(WTm.not (.lt (.lit (.int (n:Int))) (.len (.arg 0)))).holds [] { args:=[.list (ns.map .int)] }=true:=by
   have h4:=(holds_andW hc).1;rw [hn] at h4;exact h4
  have h5:=condW_of h4 (w_not (w_lt w_lit (w_len_list (w_arg rfl))));rw [bx] at h5;refine zf fun q=>?_;have q':(n:Int) < ((ns.length:Nat):Int):=by omega
  first
   | (rw [decide_eq_true q'] at h5;exact absurd h5 (by decide))
   | (simp at h5;omega)
 cases hwl with
 | cons w1 w2 =>
  cases w2;cases w1 with
  | list ho hall=>exact ⟨_,_,ns,rfl,rfl,ho,a06 ns _ hall,hlen⟩
theorem afD (l:OpenLaw) (args:List WData):l.row.toRowW.claim.post args (.bool true) args=true :=
 postW_of (r:=l.row.toRowW) (X:=(true == true))
  (show WShape.has [] (.bool true) .bool=true by first | rfl | decide | simp [WShape.has,WShape.arms,WShape.armsAll])
  (show (WTm.eq .res (.lit (.bool true))).value [] { args:=args,res:=some (.bool true),after:=args }=some (.bool (true == true)) from w_eq_bool (w_res rfl) w_lit) rfl
theorem a8L {n:Nat} {q:Program} {loose:List Str} {XP:(Str->Option Value)->Heap->Prop} {YP:World->Heap->Prop} {d:DefRec}
  (hn:l.most=some n) (hdf:d.params.defaults=[])
  (call:∀ (w:World) (s₀ s₁:Shared) (mg mb:Str->Option Value) (fa:Addr) (o:Obj) (pm cd doc:Value) (a:Addr) (vs:List Value) (ns:List Int),
   Ground q loose [] XP w s₀ mg mb s₁.heap->YP w s₁.heap ->
   s₁.heap.get? fa=some o->o.data = .func (docDef d.name d.params d.body d.scope pm cd doc)->s₁.heap.CodeRec cd d.name->mg d.name=some (.ref fa) ->
   s₁.heap.get? a=some { cls := .type "list",data := .seq vs.toArray }->IntsAre vs ns->ns.length<=n->s₁.gens=#[] ->
   codeAny (model l.prog w) callerA (.call (.ref fa) ⟨[.ref a],[]⟩) (fun r s'=>r = .ok (.ret (.bool true))/\OldK s₁.heap s'.heap/\s'.os=s₁.os/\AllBare s'.gens) s₁) :
  WalkO q loose XP YP l.row.toRowW d [] (fun f vs=>PySem.call f vs):=by
 intro w s₀ s₁ mg mb G Y fa o pm cd doc dV kV ho hd hcd hD hmg hg args vals as hpre hlay hrd hwl hlo;obtain rfl:dV = .none:=Dflts.none hD hdf;obtain rfl:kV = .none:=Dflts.noKw hD;obtain ⟨a,vs,ns,rfl,rfl,hobj,hints,hlen⟩:=afC hn hpre hwl;refine enter_call (codeAny_mono (call w s₀ s₁ mg mb fa o pm cd doc a vs ns G Y ho (fd_plain hd) hcd hmg hobj hints hlen hg) fun r s' hq=>?_);obtain ⟨rfl,h2,h3,h4⟩:=hq;exact ⟨.inl ⟨.bool true,.bool true,[],rfl,fun _=>rfl,.bool true,afD l _,fun _=>⟨List.Pairwise.nil,fun _ hm=>(nomatch hm)⟩⟩,h2,h3,h4⟩
section
variable {prog:Program} {w:World} {A:Around} {E:Value->Shared->Prop} {s:Shared} {K:Frag}
noncomputable def ledger (h:Heap) (L d:Addr):List (Addr×Obj):=(dh h.objs.size).filterMap fun a=>if a=L∨a=d then none else (h.get? a).map fun o=>(a,o)
end
end Att
namespace L2
open PySem PySem.Spec PyProof.Rows
section
theorem a4J:∀ {vs:List Value} {ns:List Int},IntsAre vs ns->Vals (ns.map V.int) vs
 | _,_,.nil => .nil
 | _,_,.cons n t h => .cons ⟨t,rfl⟩ (a4J h)
end
end L2
namespace L2
open PySem PySem.Spec PyProof.Rows
variable {qual:Str}{fd:FuncData}{H':Hp}{xs:List V}
section
noncomputable def jR (s:Stmt):Arguments:=match s with
 | .FunctionDef _ a _ _ _ _ _ _ _ _=>a
 | _=>{ posonlyargs:=[],args:=[],vararg:=none,kwonlyargs:=[],kw_defaults:=[],kwarg:=none,defaults:=[] }
noncomputable def cO (s:Stmt):List Stmt:=match s with
 | .FunctionDef _ _ b _ _ _ _ _ _ _=>b
 | _=>[]
noncomputable def aU (s:Stmt):Scope:=match s with
 | .FunctionDef _ _ _ _ _ _ sc _ _ _=>sc
 | _=>{ kind := .function,names:=[],isGenerator:=false,isCoroutine:=false }
noncomputable abbrev CX0:CXT:=fun _ _ _ _ _ _=>False
structure wK (K:bw) (x qual:Str) (st:Stmt) (f:Addr) (fd:FuncData):Prop where
 ex:∃ (oc:Value) (od:Option Addr) (dV kV doc pm:Value) (an:Option Addr) (cdv ct:Value) (osl:Array (Option Value)),
  fd=uo x qual (jR st) (cO st) (aU st) dV kV doc pm an cdv ct/\K.lookup f=some ⟨oc,od,.func fd,osl⟩/\a0e K cdv qual=true
 kp:mz K (.ref f)=true
section
variable {P:Program} {w:World} {K:bw} {mg:Str->Option Value} {base:Heap}
theorem wK.ok {x:Str} {st:Stmt} {f:Addr} {N ps:List Str} {k:Nat} {sp:Sp} (F:wK K x qual st f fd) (S:bM N ps (aU st)) (len:∀ vs H Q E,sp vs H Q E->vs.length=ps.length)
  (hbody:∀ (cdv:Value) (A:Around) (outer:List Env) (s:Shared) (H:Hp) (vs:List V) (Q:VK) (E:XK),cR qt k (A.deeper (envOfC qual (aU st) s.heap.objs.size f cdv))->sp vs H Q E ->
   ∃ t,PSs (j9 qt CX0 P w K mg base N qual (aU st) f cdv A outer s H E).nox (cO st) t/\t { nx:=fun _ H'=>Q .non H',rt:=Q } (start N vs) H):cI qt P w K mg base CX0 (k+1) f fd ps sp:=by
 obtain ⟨oc,od,dV,kV,doc,pm,an,cdv,ct,osl,rfl,lk,hcd⟩:=F.ex;refine ah5 lk hcd S len fun A outer s H vs Q E hr hsp=>?_;obtain ⟨t,h,q⟩:=hbody cdv A outer s H vs Q E hr hsp;exact ⟨t,h.nox,q⟩
theorem ahG {x:Str} {st:Stmt} {f:Addr} {oc:Value} {od an:Option Addr} {osl:Array (Option Value)} {dV kV doc pm cdv ct:Value} (l:K.lookup f=some ⟨oc,od,.func (uo x qual (jR st) (cO st) (aU st) dV kV doc pm an cdv ct),osl⟩)
  (c:a0e K cdv qual=true) (k:mz K (.ref f)=true):wK K x qual st f (uo x qual (jR st) (cO st) (aU st) dV kV doc pm an cdv ct):=⟨⟨oc,od,dV,kV,doc,pm,an,cdv,ct,osl,rfl,l,c⟩,k⟩
end
section
variable {X:Cx}
end
def Same (H H':Hp):Prop:=∀ b o,H b=some o->H' b=some o
theorem Same.refl (H:Hp):Same H H:=fun _ _ h=>h
theorem Same.trans {H H1 H2:Hp} (a:Same H H1) (b:Same H1 H2):Same H H2:=fun c o h=>b c o (a c o h)
theorem Same.free {H:Hp} (e:Same H H') {l:Addr} (h:H' l=yg):H l=yg:=by
 cases q:H l with
 | none=>rfl
 | some o =>
  rw [e l o q] at h;cases h
theorem Same.seq {K:bw} {H:Hp} {a:Addr} (e:Same H H') (h:rF K H a xs):rF K H' a xs:=by
 rcases h with (h | ⟨o,h⟩) | h
 ·exact .inl (.inl (e _ _ h))
 ·exact .inl (.inr ⟨o,e _ _ h⟩)
 ·exact .inr h
section
variable {X:Cx}
end
section
variable {κ:Type} [DecidableEq κ]
end
end
section
section
open AutoSeq1 (wpAny_loadPart')
end
section
variable {prog:Program} {w:World} {A:Around} {E:Value->Shared->Prop} {s:Shared}
end
section
variable {prog:Program} {w:World} {A:Around} {R:Result->Shared->Prop} {I:Addr} {fp wr:List Addr} {P:Nat->Value->Prop} {St:Nat->Heap->Prop}
end
section
open PySem.SeqAt
open PySem.AutoSeq1 (wpAny_loadPart')
open PySem.MeetsSeq PySem.MeetsSeq2 PySem.MeetsSeq3
end
end
variable {P:Program}{h:Heap}{c':Addr}
section
open PySem.W
section
variable {P:Program} {w:World} {fs ex:List Addr} {H:Hp} {h h':Heap} {T:Addr} {ps more:Array Value}
theorem wI.grow (x:wI P w H h) (e:H T=some (.vH ps)) (k:∀ b u,b≠T->h.get? b=some u->h'.get? b=some u) (hT:h'.get? T=some (tabObj (ps++more))):wI P w (upd H T (.vH (ps++more))) h':=fun a o q=>by
 by_cases z:a=T
 ·subst z;rw [aH] at q;cases q;exact hT
 ·rw [aQ z] at q;refine (x a o q).stay (fun b u hb hu=>k b u ?_ hu) (fun b hb=>?_) fun b xs hb=>?_
  ·rcases hb with rfl | hb
   ·exact z
   ·intro y;subst y;rw [e] at hb;cases hb
  ·rw [aQ (fun y=>by subst y;rw [e] at hb;cases hb)];exact hb
  ·rw [aQ (fun y=>by subst y;rw [e] at hb;cases hb)];exact hb
end
def uU (H:Hp) (c':Addr) (qual:Str):Prop:=∃ (oc:Obj) (vs:Array Value) (t:Tok),H c'=some (.oJ oc (.ext fun _=>True))/\oc.data = .fields vs/\vs[1]?=some (.str qual t)
def wR (H:Hp) (qual:Str) (pos:Pos) (ps:Array Value):Prop:=ps=#[]∨∃ c',ps=#[rawInt pos.line,rawInt pos.col,.ref c']/\uU H c' qual
noncomputable abbrev frO (o:Obj):HO := .oJ o (.ext fun _=>True)
theorem a0T {w:World} {H:Hp} {a:Addr} {o:Obj} (e:h.get? a=some o):iR P w H h a (frO o):=⟨e,trivial,⟨o,e⟩,fun _ _ _ _=>trivial⟩
theorem uU.keep {H:Hp} (r:uU H c' qual) (k:∀ a o φ,H a=some (.oJ o (.ext φ))->H' a=some (.oJ o (.ext φ))):uU H' c' qual:=by
 obtain ⟨oc,vs,t,e,r⟩:=r;exact ⟨oc,vs,t,k _ _ _ e,r⟩
theorem wR.keep {H H':Hp} {qual:Str} {pos:Pos} {ps:Array Value} (r:wR H qual pos ps) (k:∀ a o φ,H a=some (.oJ o (.ext φ))->H' a=some (.oJ o (.ext φ))):wR H' qual pos ps:=by
 rcases r with r | ⟨c',e,r⟩
 ·exact .inl r
 ·exact .inr ⟨c',e,r.keep k⟩
section
variable {X:Cx} {pins:List (Addr×Obj)} {σ:List (Option V)} {H:Hp} {s:Shared}
theorem Inv.grow {T c':Addr} {ps more:Array Value} {oc:Obj} {h':Heap} {t':Nat} (I:Inv X pins σ H s) (e:H T=some (.vH ps)) (k:∀ b u,b≠T->s.heap.get? b=some u->h'.get? b=some u) (hT:h'.get? T=some (tabObj (ps++more))) (hc:s.heap.objs.size<=c') (ho:h'.get? c'=some oc) :
  Inv X pins σ (upd (upd H T (.vH (ps++more))) c' (frO oc)) { s with heap:=h',toks:=t' }:=by
 have fr:H c'=none:=I.hok.fresh hc;have tc:T≠c':=bY e fr;have nT:∀ b,H b=none->b≠T:=fun b n z=>by subst z;rw [e] at n;cases n
 have old:∀ b o,s.heap.get? b=some o->b≠c':=fun b o q=>gk (cu (cg q) hc);have hk2:wI X.prog X.w (upd H T (.vH (ps++more))) h':=I.hok.grow e k hT;refine I.step (ch:=[]) (fun b z=>nomatch z) (fun b o _ _ _ q n=>k b o (nT b n) q) (fun b o _ _ _ q n=>⟨o.slots,k b o (nT b n) q⟩) (fun b o _ q n=>?_) (fun b o _ q=>?_) (fun b xs q=>?_) (fun b o u q=>?_) (fun b qs q=>?_) (fun m hn=>?_) (fun a o q=>?_) I.bare
 ·rw [aQ (old b o q),aQ (nT b n)];exact n
 ·by_cases z:b=T
  ·subst z;exact ⟨_,hT⟩
  ·exact ⟨o,k b o z q⟩
 ·rw [aQ (bY q fr),aQ (acL q e (fun z=>by cases z))];exact q
 ·rw [aQ (bY q fr),aQ (acL q e (fun z=>by cases z))];exact q
 ·by_cases z:b=T
  ·subst z;rw [e] at q;cases q;exact ⟨more,by rw [aQ tc,aH]⟩
  ·exact ⟨#[],by rw [aQ (bY q fr),aQ z,q];simp⟩
 ·obtain ⟨o,es,ep,q,r⟩:=hn;exact ⟨o,es,ep,k _ _ (nT _ I.free) q,r⟩
 ·by_cases z:a=c'
  ·subst z;rw [aH] at q;cases q;exact a0T ho
  ·rw [aQ z] at q;refine (hk2 a o q).stay (fun _ _ _ h=>h) (fun b hb=>?_) fun b xs hb=>?_
   ·rw [aQ (fun y=>by subst y;rw [aQ (Ne.symm tc),fr] at hb;cases hb)];exact hb
   ·rw [aQ (fun y=>by subst y;rw [aQ (Ne.symm tc),fr] at hb;cases hb)];exact hb
end
end
section
open PySem.W
theorem a4K {env:Env}:∀ (a b:List Stmt),execs (a++b) env=(execs a env >>= fun f=>match f with | .next=>execs b env | f=>pure f)
 | [],b=>by simp [execs]
 | s :: r,b=>by
  rw [wg,execs,execs,bind_assoc];congr 1;funext f;cases f with
  | next=>exact a4K r b
  | _=>simp
section
variable {P:Program} {w:World} {fs ex:List Addr} {H H':Hp} {h h':Heap} {a:Addr} {o:Obj}
end
section
variable {X:Cx} {name qual:Str} {params:Arguments} {body:List Stmt} {scope:Scope} {pos:Pos} {clos:List (Str×Addr)} {c T:Addr} {i:Nat}
end
end
variable {scope:Scope}{qt:Bool}{CX:CXT}{mg:Str->Option Value}{base:Heap}{cc:Addr}{outer:List Env}{us:List Value}{vs:List V}{vv:V}{u:Value}
section
open PySem.W
theorem iJ:∀ (names:List (Str×NameKind)) (n:Nat) (acc:List (Str×Addr)),cellsFrom n names acc=cellsFrom n names []++acc
 | [],_,_=>rfl
 | (name,kind) :: r,n,acc=>by
  unfold cellsFrom;split
  ·rw [iJ r (n+1) ((name,n) :: acc),iJ r (n+1) [(name,n)],jz];rfl
  ·exact iJ r n acc
noncomputable def lQ (name:Str) (scope:Scope) (L a:Addr) (cd:Value) (cl:List (Str×Addr)):Env :=
 { scope:=scope,locals:=L,globals:=mainGlobals,cells:=cellsFrom (L+1) scope.names cl,qual:=name ++ ".<locals>.",func:=some a,code:=cd,frame:=some L,builtins:=builtinsNs }
structure InX (s:Shared) (L:Addr) (m:Str->Option Value) (names:List (Str×NameKind)) (s1:Shared):Prop where
 call:InCall s L m s1
 cell:∀ n c,(n,c)∈cellsFrom (L+1) names []->s1.heap.IsCell c none/\L < c
 apart:(cellsFrom (L+1) names []).Pairwise fun x y=>x.2≠y.2
section
variable {M:Model} {A:Around} {E:Value->Shared->Prop} {s₀ s:Shared} {env:Env}
theorem zL (f:Str×Value->PUnit->Sem (ForInStep PUnit)) (hf:∀ n v u,f (n,v) u=(do storeName env n v;pure (.yield ⟨⟩))) (hk:env.scope.kind = .function) :
  ∀ (binds:List (Str×Value)) (m:Str->Option Value) (s:Shared) (Q:PUnit->Shared->Prop),InX s₀ env.locals m env.scope.names s ->
   (∀ x∈binds,env.kindOf x.1=some .local)->(∀ s',InX s₀ env.locals (bindL env.kindOf binds m) env.scope.names s'->Q ⟨⟩ s')->wpAny M A (forIn binds ⟨⟩ f) Q E s
 | [],m,s,Q,x,_,h=>by rw [List.forIn_nil];exact bh (h s x)
 | (n,v) :: r,m,s,Q,x,hl,h=>by
  rw [xu,hf];have l:=hl (n,v) jj;refine aj (aj (wpAny_storeName_local l x.call.ns (fun h' hn' hs'=>bh (zL f hf hk r _ _ Q ⟨⟨?_,hn',fun b o e=>?_,x.call.fresh⟩,fun k c hc=>?_,x.apart⟩ (fun y hy=>hl y (iu _ hy)) fun s'' x''=>h s'' ?_)) (by rw [hk];rfl)))
  ·obtain ⟨h₁,tk,rfl⟩:=x.call.same;exact ⟨h',_,rfl⟩
  ·exact hs'.extBut b o (gk (cu (cg e) x.call.fresh)) (x.call.keep b o e)
  ·exact ⟨(x.cell k c hc).1.sameBut hs' (yq (x.cell k c hc).2),(x.cell k c hc).2⟩
  ·unfold bindL;rw [if_pos l];exact x''
theorem an0 {cl:List (Str×Addr)} {binds:List (Str×Value)} {f:Addr} {code:Value} {Q:Env->Shared->Prop} (hk:scope.kind = .function) (hloc:∀ x∈binds,scope.names.lookup x.1=some .local)
  (hQ:∀ s',InX s s.heap.objs.size (bindL (lQ qual scope s.heap.objs.size f code cl).kindOf binds fun _=>none) scope.names s'->Q (lQ qual scope s.heap.objs.size f code cl) s') :
  wpAny M A (newFunctionEnv scope mainGlobals cl binds (qual ++ ".<locals>.") (some f) code none builtinsNs) Q E s:=by
 simp only [newFunctionEnv,Option.isSome_none,fj,if_false];refine aj (wpAny_alloc ?_);refine aj (wpAny_layCells _ (fun name kind cells=>by cases hkc:kind == NameKind.cell <;> simp [hkc]) _ _ _ _ ?_);have ok:=cellsFrom_ok scope.names (s.heap.push { cls := .type "frame",data := .dict #[] }) (s.heap.objs.size+1) [] ⟨fun _ _ hm=>(nomatch hm),List.Pairwise.nil⟩ (by rw [vp];exact au _);rw [vp] at ok;rw [show ({ s with heap:=s.heap.push { cls := .type "frame",data := .dict #[] } }:Shared).heap.objs.size=s.heap.objs.size+1 from vp ..]
 refine aj (zL (s₀:=s) (env:=lQ qual scope s.heap.objs.size f code cl) _ (fun _ _ _=>rfl) hk binds (fun _=>none) _ _
  ⟨⟨⟨_,_,rfl⟩,(Heap.Ns.new s.heap (.type "frame")).keeps (pushCells_keeps _ _),fun b o e=>pushCells_keeps _ _ b o (ao _ e),au _⟩,fun n c hm=>ok.empty n c hm,ok.apart⟩ hloc fun s' x=>bh (hQ s' x))
end
structure ScX (N ps:List Str) (x:Str) (sc:Scope):Prop where
 kind:sc.kind = .function
 co:sc.isCoroutine=false
 gen:sc.isGenerator=false
 nd:N.Nodup
 pre:N.take (ps.length+1)=x :: ps
 par:∀ y∈ps,sc.names.lookup y=some .local
 free:∀ y,sc.names.lookup y=some .free->y=x
 own:sc.names.lookup x=some .free
noncomputable def cxX (qt:Bool) (CX:CXT) (P:Program) (w:World) (K:bw) (mg:Str->Option Value) (base:Heap) (N:List Str) (qual:Str) (scope:Scope) (f:Addr) (cd:Value) (x:Str) (cc:Addr) (A:Around) (outer:List Env) (s:Shared) (H:Hp) (E:XK):Cx where
 prog:=P
 w:=w
 K:=K
 mg:=mg
 base:=base
 A:=A.deeper (lQ qual scope s.heap.objs.size f cd [(x,cc)])
 N:=N
 s₀:=s
 H₀:=H
 env:=lQ qual scope s.heap.objs.size f cd [(x,cc)]
 outer:=outer
 stack:=lQ qual scope s.heap.objs.size f cd [(x,cc)] :: outer
 ex:=[]
 calm:=!qt
 fn:=fun y=>!(y == x)
 pn:=[]
 tp:=[]
 xe:=fun e s'=>wpAny (model P w) (A.deeper (lQ qual scope s.heap.objs.size f cd [(x,cc)])) (leaving (lQ qual scope s.heap.objs.size f cd [(x,cc)]) e) (fun _ s''=>CX outer H s E e s'') (fun e' s''=>CX outer H s E e' s'') s'
instance aE1 {qt:Bool} {CX:CXT} {P:Program} {w:World} {K:bw} {mg:Str->Option Value} {base:Heap} {N:List Str} {qual:Str} {scope:Scope} {f:Addr} {cd:Value} {x:Str} {cc:Addr} {A:Around} {outer:List Env} {s s1:Shared} {H:Hp} {E:XK}:Tk (cxX qt CX P w K mg base N qual scope f cd x cc A outer s H E).need s1:=⟨fun z=>nomatch z⟩
theorem a0U {α:Type} {n:Str}:∀ {l m:List (Str×α)} {c:α},(l++m).lookup n=some c->(n,c)∈l∨m.lookup n=some c
 | [],_,_,h => .inr h
 | (k,v) :: r,m,c,h=>by
  rw [wg,jg] at h;cases hb:n == k with
  | true=>rw [hb] at h;cases h;rw [beq_iff_eq.mp hb];exact .inl (.head _)
  | false =>
   rw [hb] at h;rcases a0U h with z | z
   ·exact .inl (.tail _ z)
   ·exact .inr z
theorem rM:∀ {names:List (Str×NameKind)} {n:Nat} {acc:List (Str×Addr)} {y:Str} {c:Addr},(y,c)∈cellsFrom n names acc->(y,c)∈acc∨(y,NameKind.cell)∈names
 | [],_,_,_,_,h => .inl h
 | (name,kind) :: r,n,acc,y,c,h=>by
  unfold cellsFrom at h;split at h
  ·rename_i hk;rcases rM h with z | z
   ·rcases jc.mp z with z | z
    ·cases z;exact .inr (by rw [beq_iff_eq.mp hk];exact .head _)
    ·exact .inl z
   ·exact .inr (.tail _ z)
  ·rcases rM h with z | z
   ·exact .inl z
   ·exact .inr (.tail _ z)
theorem qT {α:Type} {n:Str}:∀ {l m:List (Str×α)},(∀ c,(n,c) ∉ l)->(l++m).lookup n=m.lookup n
 | [],_,_=>rfl
 | (k,v) :: r,m,h=>by
  rw [wg,jg];cases hb:n == k with
  | true=>exact absurd (by rw [beq_iff_eq.mp hb];exact .head _) (h v)
  | false=>exact qT fun c hc=>h c (.tail _ hc)
theorem rN {α:Type} {n:Str} {c:α}:∀ {l m:List (Str×α)},(l.lookup n=some c)->(l++m).lookup n=some c
 | (k,v) :: r,m,h=>by
  rw [wg,jg];rw [jg] at h;cases hb:n == k with
  | true=>rw [hb] at h;exact h
  | false=>rw [hb] at h;exact rN h
theorem ab5 {w:World} {K:bw} {N ps:List Str} {x:Str} {f:Addr} {cd:Value} {A:Around} {s s1:Shared} {H:Hp} {E:XK}
  (S:ScX N ps x scope) (a0V:∀ y∈scope.names,y.1=x->y.2 ≠ .cell) (hd:qt=false->A.handled=none) (e0:vK P w K mg base A outer s H) (hl:vs.length=ps.length) (r:Vals vs us) (hc:s.heap.IsCell cc (some u)) (hH:H cc=none) (rv:RelV vv u)
  (y:InX s s.heap.objs.size (bindL (lQ qual scope s.heap.objs.size f cd [(x,cc)]).kindOf (ps.zip us) fun _=>none) scope.names s1) :
  Inv (cxX qt CX P w K mg base N qual scope f cd x cc A outer s H E) [] (start N (vv :: vs)) H s1:=by
 have hpl:ps.length+1<=N.length:=by have:=congrArg List.length S.pre;rw [qx] at this;simp at this;omega
 obtain ⟨h1,tk,rfl,hk⟩:=y.call.done;have ccl:cc < s.heap.objs.size:=hc.lt;have noA:∀ b:Addr,b ∉ (cxX qt CX P w K mg base N qual scope f cd x cc A outer s H E).ex:=fun b z=>absurd (show b∈([]:List Addr) from z) (by simp);have cells:(cxX qt CX P w K mg base N qual scope f cd x cc A outer s H E).env.cells=cellsFrom (s.heap.objs.size+1) scope.names []++[(x,cc)]:=iJ _ _ _
 have split:∀ n c,(cxX qt CX P w K mg base N qual scope f cd x cc A outer s H E).env.cells.lookup n=some c->(n,c)∈cellsFrom (s.heap.objs.size+1) scope.names []∨(n=x/\c=cc):=fun n c h=>by
  rw [cells] at h;rcases a0U h with z | z
  ·exact .inl z
  ·rw [jg] at z;cases hb:n == x with
   | true=>rw [hb] at z;cases z;exact .inr ⟨beq_iff_eq.mp hb,rfl⟩
   | false=>rw [hb] at z;cases z
 have lx:(cxX qt CX P w K mg base N qual scope f cd x cc A outer s H E).env.cells.lookup x=some cc:=by
  rw [cells,qT fun c hm=>?_]
  ·simp
  ·rcases rM hm with z | z
   ·cases z
   ·exact a0V _ z rfl rfl
 have lt:∀ n c,(n,c)∈cellsFrom (s.heap.objs.size+1) scope.names []->s.heap.objs.size < c:=fun n c h=>(y.cell n c h).2
 refine ⟨⟨e0.mod,S.kind,rfl,rfl,au _,fun n z c h1 h2=>?_,fun n hy=>?_,fun n c fn h=>?_,fun z=>hd (by cases qt with | false=>rfl | true=>cases z),Around.frames_deeper e0.frames,.inr ⟨rfl,rfl⟩,fun b z=>absurd z (noA b),e0.bs,e0.bsz,fun b _ _=>noA b,fun b z=>absurd z (noA b),e0.nU,e0.frf⟩,
  rfl,e0.bare,Un.kept hk,⟨_,y.call.ns,fun i n v h1 h2 h3=>?_⟩,fun n c h=>?_,e0.hok.fresh (au _),fun n c h=>?_,fun p hp=>absurd (show p∈([]:List (Addr×Obj)) from hp) (by simp),e0.hok.kept hk,?_,e0.hnd,fun p hp=>absurd (show p∈([]:List (Addr×List V)) from hp) (by simp)⟩
 ·rcases split n c h1 with a | ⟨a,a'⟩ <;> rcases split z c h2 with b | ⟨b,b'⟩
  ·exact name_of_addr y.apart a b
  ·exact absurd (lt _ _ a) (by rw [b'];exact Nat.not_lt.mpr (jx ccl))
  ·exact absurd (lt _ _ b) (by rw [a'];exact Nat.not_lt.mpr (jx ccl))
  ·rw [a,b]
 ·have hy:scope.names.lookup n=some .cell∨scope.names.lookup n=some .free:=hy;rcases hy with hy | hy
  ·obtain ⟨c,e⟩:=a0Q (n:=s.heap.objs.size+1) hy;exact ⟨c,by rw [cells];exact rN e⟩
  ·rw [S.free n hy];exact ⟨cc,lx⟩
 ·rcases split n c h with a | ⟨rfl,rfl⟩
  ·exact jx (lt _ _ a)
  ·have fn:(!(n == n))=true:=fn;simp at fn
 ·unfold start at h2;cases i with
  | zero =>
   have e1:x=n:=by
    have:=congrArg (fun l=>l[0]?) S.pre;rw [a0c (by omega)] at this;have h1:N[0]?=some n:=h1;rw [h1] at this;simp at this;exact this.symm
   subst e1;simp at h2;subst h2;obtain ⟨o,ho,hod⟩:=hc;exact ⟨u,rv,.inr ⟨.inr S.own,cc,lx,o,hk _ _ ho,hod⟩⟩
  | succ i =>
   have hi:i < vs.length:=by
    by_cases hi:i < vs.length
    ·exact hi
    ·rw [nq (by simp;omega)] at h2;rw [List.getElem?_replicate] at h2;split at h2 <;> cases h2
   have ha:vs[i]?=some v:=by
    rw [ug (by simp;omega),gw,List.getElem?_cons_succ] at h2;cases e:vs[i]? with
    | none=>rw [e] at h2;cases h2
    | some a=>rw [e] at h2;cases h2;rfl
   obtain ⟨uu,hu,rvv⟩:=r.get ha
   have hp:ps[i]?=some n:=by
    have:=congrArg (fun l=>l[i+1]?) S.pre;rw [a0c (by omega)] at this;have h1:N[i+1]?=some n:=h1;rw [h1] at this;simpa using this.symm
   have ndP:ps.Nodup:=by
    have:(x :: ps).Nodup:=by rw [← S.pre];exact S.nd.sublist (List.take_sublist _ _)
    exact (oh.mp this).2
   have k:=S.par n (iw hp);exact ⟨uu,rvv,.inl ⟨k,yM ndP hp hu k⟩⟩
 ·rcases split n c h with a | ⟨rfl,rfl⟩
  ·exact ⟨_,(y.cell n c a).1⟩
  ·obtain ⟨o,ho,hod⟩:=hc;exact ⟨_,o,hk _ _ ho,hod⟩
 ·rcases split n c h with a | ⟨rfl,rfl⟩
  ·exact e0.hok.fresh (jx (lt _ _ a))
  ·exact hH
 ·unfold start;show _=N.length;rw [mj,bx,List.length_replicate];simp;omega
end
variable {h':Heap}
section
noncomputable abbrev NK:=List Int×Int
def a3K (h:Heap) (k:NK) (a:Addr):Prop:=∃ o b t n,h.get? a=some o/\o.cls = .type "tuple" /\ o.data = .seq #[.ref b,.int k.2 t] n/\∀ (P:Program) (w:World),IsTupleKey (bI P w) h (k.1.map Sum.inl) b
theorem acU {x y:List Int} (h:x.map (Sum.inl:Int->Key)=y.map Sum.inl):x=y:=by
 induction x generalizing y with
 | nil=>cases y with
  | nil=>rfl
  | cons _ _=>cases h
 | cons a r ih=>cases y with
  | nil=>cases h
  | cons b q =>
   rw [jm,jm] at h;injection h with h1 h2;injection h1 with h1;rw [h1,ih h2]
theorem ahH {P:Program} {w:World} {a:Addr} {x y:NK} (hx:a3K h x a) (hy:a3K h y a):x=y:=by
 obtain ⟨o,b,t,n,e1,e2,e3,e4⟩:=hx;obtain ⟨o',b',t',n',g1,g2,g3,g4⟩:=hy;rw [e1] at g1;cases g1;rw [e3] at g3;simp only [Data.seq.injEq,Array.mk.injEq,List.cons.injEq,Value.ref.injEq,Value.int.injEq,and_true] at g3;obtain ⟨⟨rfl,h2,_⟩,_⟩:=g3;have:=acU ((e4 P w).inj (g4 P w));exact Prod.ext this h2
theorem ahI {P:Program} {w:World} {k:NK} {a d:Addr} {o:Obj} {es ep} (x:a3K h k a) (ho:h.get? d=some o) (hd:o.data = .dict es ep) (hs:nu d h h'):a3K h' k a:=by
 obtain ⟨o',b,t,n,e1,e2,e3,e4⟩:=x
 have hne:a≠d:=by
  rintro rfl;rw [e1] at ho;cases ho;rw [hd] at e3;exact nomatch e3
 exact ⟨o',b,t,n,(hs.2 a hne).trans e1,e2,e3,fun P w=>(e4 P w).keeps ho hd hs⟩
variable {Q:Bool->Shared->Prop}
section
variable {prog:Program} {w:World} {A:Around} {E:Value->Shared->Prop} {s:Shared}
noncomputable def ab6 (prog:Program) (w:World) (k:NK):Int:=reduceHash (Builtin.Tuple.tupleHashOf [tupleKeyHash (bI prog w) (k.1.map Sum.inl),(bI prog w).hash (.inl k.2)])
theorem acV {k:NK} {a:Addr} (x:a3K s.heap k a):s.TypeIs (.ref a) "tuple" := let ⟨o,_,_,_,ho,hc,_⟩:=x;⟨o,ho,hc⟩
theorem afF {k:NK} {a:Addr} {Q:Int->Shared->Prop} (hu:A.units+8 < cLine) (hk:a3K s.heap k a) (h:Q (ab6 prog w k) { s with toks:=s.toks+(k.1.length+1+1+1) }) :
  wpAny (model prog w) A (pyHash (.ref a)) Q E s:=by
 have hT:=acV hk;obtain ⟨o,b,t,n,ho,hc,hd,hi⟩:=hk;unfold pyHash
 first | unfold pyHashByItsType | skip
 first | refine aj (wpAny_cRoomFor_or (.inr (by omega)) ?_) | skip
 refine aj (wpAny_specialOf hT PySem.F.slot_tuple_hash.lookup ?_);show wpAny _ _ (if (some (Value.builtin "tuple.__hash__") == some Value.none)=true then _ else _) Q E s;rw [if_neg (by rw [beq_builtin_none];exact jr)];refine aj (wpAny_specialOf hT PySem.F.slot_tuple_hash.lookup ?_);show wpAny _ _ (callSpecialIfBoundUnlessNone? (.ref a) "__hash__" _ >>= _) Q E s;refine aj (wpAny_callSpecialIfBoundUnlessNone?_slot hT PySem.F.slot_tuple_hash (wpAny_call_entry PySem.F.slot_tuple_hash hT PySem.F.entry_tuple_hash ?_ (PySem.F.args_tuple_hash_1 _)));show wpAny _ _ (Builtin.Tuple.tupleItemsOf (.ref a) >>= _) _ _ s;refine aj (wpAny_tupleItemsOf ho hd ?_);refine aj ?_;rw [← Array.forIn_toList];have hl:(k.1.map (Sum.inl:Int->Key)).length=k.1.length:=bx ..
 refine wpAny_forIn_list _
  (fun rest (acc:Array Int) s'=>(rest=[Value.ref b,.int k.2 t]/\acc=#[]/\s'=s)∨(rest=[Value.int k.2 t]/\acc=#[tupleKeyHash (bI prog w) (k.1.map Sum.inl)]/\s'={ s with toks:=s.toks+(k.1.length+1) })∨(rest=[]/\acc=#[tupleKeyHash (bI prog w) (k.1.map Sum.inl),(bI prog w).hash (.inl k.2)]/\s'={ s with toks:=s.toks+(k.1.length+1+1) }))
  _ ?_ ?_ _ _ (.inl ⟨rfl,rfl,rfl⟩)
 ·rintro x rest acc s' (⟨hr,rfl,rfl⟩ | ⟨hr,rfl,rfl⟩ | ⟨hr,_⟩)
  ·injection hr with h1 h2;subst h1 h2;refine aj (wpAny_pyHash_tuple (knd:=bI prog w) (by show A.units+1 < cLine;omega) (hi prog w) ?_);rw [hl]
   first
    | exact bh (.inr (.inl ⟨rfl,rfl,rfl⟩))
    | exact aj (bh (bh (.inr (.inl ⟨rfl,rfl,rfl⟩))))
  ·injection hr with h1 h2;subst h1 h2;refine aj ((bI prog w).pyHash (a8E prog w k.2 t) ?_)
   first
    | exact bh (.inr (.inr ⟨rfl,rfl,rfl⟩))
    | exact aj (bh (bh (.inr (.inr ⟨rfl,rfl,rfl⟩))))
  ·cases hr
 ·rintro acc s' (⟨hr,_⟩ | ⟨hr,_⟩ | ⟨_,rfl,rfl⟩)
  ·cases hr
  ·cases hr
  ·show wpAny _ _ (retInt (Builtin.Tuple.tupleHashOf [tupleKeyHash (bI prog w) (k.1.map Sum.inl),(bI prog w).hash (.inl k.2)])) _ _ _;refine wpAny_ret_mkInt ?_;show wpAny _ _ (if (decide (-(2:Int) ^ 63<=Builtin.Tuple.tupleHashOf [tupleKeyHash (bI prog w) (k.1.map Sum.inl),(bI prog w).hash (.inl k.2)])&&decide (Builtin.Tuple.tupleHashOf [tupleKeyHash (bI prog w) (k.1.map Sum.inl),(bI prog w).hash (.inl k.2)] < 2 ^ 63))=true then _ else _) Q E _;unfold ab6 reduceHash at h;by_cases hr:(decide (-(2:Int) ^ 63<=Builtin.Tuple.tupleHashOf [tupleKeyHash (bI prog w) (k.1.map Sum.inl),(bI prog w).hash (.inl k.2)])&&decide (Builtin.Tuple.tupleHashOf [tupleKeyHash (bI prog w) (k.1.map Sum.inl),(bI prog w).hash (.inl k.2)] < 2 ^ 63))=true
   ·rw [if_pos hr];rw [if_pos hr] at h;exact bh (by simpa [Nat.add_assoc] using h)
   ·rw [if_neg hr];rw [if_neg hr] at h;exact aj (wpAny_rule (bh (by simpa [Nat.add_assoc] using h)))
theorem an1 (P:Program) (w0:World) {x y:NK} {a b:Addr} (hu:A.units+8 < cLine) (hx:a3K s.heap x a) (hy:a3K s.heap y b):SeqAt.EqAt A s (.ref a) (.ref b) (decide (x=y)):=by
 by_cases hab:a=b
 ·subst hab;have e:x=y:=ahH (P:=P) (w:=w0) hx hy;subst e;rw [decide_eq_true rfl];exact SeqAt.EqAt.same _
 ·obtain ⟨o,b1,t,n,e1,e2,e3,e4⟩:=hx;obtain ⟨o',b2,t',n',g1,g2,g3,g4⟩:=hy;refine SeqAt.EqAt.of_refs hab ?_
  have z:=SeqAt.RcAt.tuples (A:=A) (s:=s) (e:=fun j=>if j=0 then decide (x.1=y.1) else decide (x.2=y.2)) (show s.heap.IsTuple a #[.ref b1,.int x.2 t] from ⟨o,e1,e2,n,e3⟩) (show s.heap.IsTuple b #[.ref b2,.int y.2 t'] from ⟨o',g1,g2,n',g3⟩) (by omega) (fun j h1 h2=>by
   match j,h1,h2 with
   | 0,_,_ =>
    rw [if_pos rfl];intro prog' w' E' Q' hq
    have e:decide (x.1.map (Sum.inl:Int->Key)=y.1.map Sum.inl)=decide (x.1=y.1):=by
     rw [decide_eq_decide];exact ⟨acU,fun z=>by rw [z]⟩
    exact wpAny_eqBool_tuple (knd:=bI prog' w') (by show A.units+1 < cLine;omega) (e4 prog' w') (g4 prog' w') (by rw [e];exact hq)
   | 1,_,_ =>
    rw [if_neg (by decide)];intro prog' w' E' Q' hq
    exact wpAny_eqBool_int (by
     have e:(x.2 == y.2)=decide (x.2=y.2):=rfl
     first
      | exact hq
      | (rw [e];exact hq))
   | j+2,h1,_=>exact absurd h1 (by simp))
  have e:((dh (min (#[Value.ref b1,.int x.2 t]:Array Value).size (#[Value.ref b2,.int y.2 t']:Array Value).size)).all (fun j=>if j=0 then decide (x.1=y.1) else decide (x.2=y.2))&&(#[Value.ref b1,.int x.2 t]:Array Value).size == (#[Value.ref b2,.int y.2 t']:Array Value).size)=decide (x=y):=by
   show ((dh 2).all _&&true)=_;rw [show dh 2=[0,1] from rfl];simp only [qz,List.all_nil,Bool.and_true,if_true,Nat.one_ne_zero,if_false];rw [Bool.eq_iff_iff,ak,decide_eq_true_eq,decide_eq_true_eq,decide_eq_true_eq];exact ⟨fun z=>Prod.ext z.1 z.2,fun z=>by rw [z];exact ⟨rfl,rfl⟩⟩
  rw [e] at z;exact z
theorem ab7 {m:Nat} {ks:List Key} {a:Addr} (hk:IsTupleKey (bI prog w) s.heap ks a) (h:Q true s):wpAny (model prog w) A (eqIsQuiet (m+1) (.ref a)) Q E s:=by
 have hT:=hk.typeIs;obtain ⟨o,items,n,ho,_,hd,hi⟩:=hk;unfold eqIsQuiet;refine aj (wpAny_specialOf hT PySem.F.slot_tuple_eq.lookup ?_);show wpAny _ _ (isInstance (.ref a) (.type "tuple") >>= _) _ _ s;refine aj (wpAny_isInstance hT isSubtype_tuple_tuple ?_);simp only [zy,fj,if_false];refine aj (wpAny_seqItems ho hd ?_);refine aj ?_;show wpAny _ _ (forIn items _ _) _ _ s;rw [← Array.forIn_toList];refine wpAny_forIn_list _ (fun rest r s'=>r.1=none/\s'=s/\∀ v∈rest,carriedByValue v=true) _ ?_ ?_ _ _ ⟨rfl,rfl,hi.byValue⟩
 ·rintro v rest r s' ⟨hr,rfl,hall⟩;rw [eqIsQuiet_byValue _ (hall v jj)];refine aj (bh ?_);simp only [zy,fj,if_false];exact bh ⟨rfl,rfl,fun u hu'=>hall u (iu _ hu')⟩
 ·rintro ⟨r1,r2⟩ s' ⟨hr,rfl,_⟩;simp only at hr;subst hr;exact bh h
theorem ahJ {k:NK} {a:Addr} (hk:a3K s.heap k a) (h:Q true s):wpAny (model prog w) A (eqIsQuiet 8 (.ref a)) Q E s:=by
 have hT:=acV hk;obtain ⟨o,b,t,n,ho,_,hd,hi⟩:=hk;unfold eqIsQuiet;refine aj (wpAny_specialOf hT PySem.F.slot_tuple_eq.lookup ?_);show wpAny _ _ (isInstance (.ref a) (.type "tuple") >>= _) _ _ s;refine aj (wpAny_isInstance hT isSubtype_tuple_tuple ?_);simp only [zy,fj,if_false];refine aj (wpAny_seqItems ho hd ?_);refine aj ?_;rw [← Array.forIn_toList];refine wpAny_forIn_list _ (fun rest r s'=>r.1=none/\s'=s/\∀ v∈rest,v = .ref b∨v = .int k.2 t) _ ?_ ?_ _ _ ⟨rfl,rfl,fun v hv=>by simpa using hv⟩
 ·rintro v rest r s' ⟨hr,rfl,hall⟩;rcases hall v jj with rfl | rfl
  ·refine aj (ab7 (m:=6) (hi prog w) ?_);simp only [zy,fj,if_false];exact bh ⟨rfl,rfl,fun u hu'=>hall u (iu _ hu')⟩
  ·rw [eqIsQuiet_byValue _ rfl];refine aj (bh ?_);simp only [zy,fj,if_false];exact bh ⟨rfl,rfl,fun u hu'=>hall u (iu _ hu')⟩
 ·rintro ⟨r1,r2⟩ s' ⟨hr,rfl,_⟩;simp only at hr;subst hr;exact bh h
end
noncomputable def atN (prog:Program) (w:World):HeapKind prog w NK where
 is:=a3K
 hash:=ab6 prog w
 draws:=fun k=>k.1.length+1+1+1
 room:=fun A=>A.units+8 < cLine
 inj:=fun hx hy=>ahH (P:=prog) (w:=w) hx hy
 keeps:=fun x ho hd hs=>ahI (P:=prog) (w:=w) x ho hd hs
 pyHash:=fun hu hk h=>afF hu hk h
 eqBool:=fun hu hx hy h=>an1 prog w hu hx hy prog w _ _ h
 quiet:=fun hk h=>ahJ hk h
end
variable {Q:VK}{name:Str}{params:Arguments}{body:Expr}
section
open PySem.W
section
variable {X:Cx} {pins:List (Addr×Obj)} {σ:List (Option V)} {H:Hp} {s:Shared}
theorem atO {A:Around} {E:Value->Shared->Prop} {Q:Value->Shared->Prop} {pos:Pos} {firstLine:Nat} {clos:List (Str×Addr)} {c T:Addr} {ps:Array Value} (I:Inv X pins σ H s) (hT:H T=some (.vH ps)) (st:wR H qual pos ps) (C:CodeHd X.base c T) (hb:X.base.BuiltinsAt X.mg T) (hcode:X.env.code = .ref c) (hcl:closureFor scope X.env=pure clos)
  (h:∀ f c' ctv ps' H' s',Inv X pins σ H' s'->H f=none->H' f=some (frO (kla_obj name qual params body scope clos ((X.mg "__name__").getD .none) c' ctv))->uU H' c' qual->H' T=some (.vH ps')->wR H' qual pos ps'->(∀ b u,b≠T->H b=some u->H' b=some u)->Q (.ref f) s') :
  wpAny (model X.prog X.w) A (makeFunction name qual params (.expr body) scope X.env [] [] [] pos firstLine) Q E s:=by
 have hP:s.heap.get? T=some (tabObj ps):=I.hok T _ hT;have hg:s.heap.Ns mainGlobals X.mg:=I.mod.glob.keeps I.bk;have hC:CodeHd s.heap c T:=C.keeps I.bk
 have hgT:mainGlobals≠T:=fun z=>by
  obtain ⟨o,es,ep,q,d,_⟩:=hg;rw [z,hP] at q;cases q;cases d
 have hbs:s.heap.BuiltinsAt X.mg T:=by
  obtain ⟨bm,o,b1,b2,b3,b4,b5,b6⟩:=hb;exact ⟨bm,o,b1,b2,b3,b4,I.bk _ _ b5,b6⟩
 rcases id st with st0 | ⟨c',e,rec⟩
 ·subst st0;refine kla_makeFunction (mg:=X.mg) hcl I.ok.glob hg hcode hC hP trivial rfl hgT hbs fun c' ctv h' tk hx hge hlt hrec htb=>?_;obtain ⟨c₂,oc,vs,t,e2,hoc,hd,hv⟩:=hrec;cases e2;have I1:=I.grow (t':=s.toks) (c':=c') hT (fun b u n q=>hx b u n q) htb hge hoc;have fr:H c'=none:=I.hok.fresh hge;have tc:T≠c':=bY hT fr;have ff:H h'.objs.size=none:=I.hok.fresh (ju hge (jx hlt));have I2:=I1.laid (t':=tk) (o:=frO (kla_obj name qual params body scope clos ((X.mg "__name__").getD .none) c' ctv)) (fun b u q=>ao _ q) (au _) (a0T (dw _ rfl));have n1:c'≠h'.objs.size:=gk hlt;have n2:T≠h'.objs.size:=bY hT ff;have rc:uU (upd (upd (upd H T (.vH (#[]++#[rawInt pos.line,rawInt pos.col,.ref c']))) c' (frO oc)) h'.objs.size (frO (kla_obj name qual params body scope clos ((X.mg "__name__").getD .none) c' ctv))) c' qual:=⟨oc,vs,t,by rw [aQ n1,aH],hd,hv⟩;refine h h'.objs.size c' ctv _ _ _ I2 ff aH rc (by rw [aQ n2,aQ tc,aH]) (.inr ⟨c',by simp,rc⟩) fun b u hb q=>?_;rw [aQ (bY q ff),aQ (bY q fr),aQ hb];exact q
 ·subst e;have hf:codeAmong pos (#[rawInt pos.line,rawInt pos.col,Value.ref c']:Array Value).toList=some (.ref c'):=by simp [codeAmong,rawInt]
  refine kla_makeFunctionHit (mg:=X.mg) hcl I.ok.glob hg hcode hC hP trivial hf hbs fun ctv h' tk hk hsz=>?_;have ff:H h'.objs.size=none:=I.hok.fresh hsz;have I1:=I.kept (t':=s.toks) hk;have I2:=I1.laid (t':=tk) (o:=frO (kla_obj name qual params body scope clos ((X.mg "__name__").getD .none) c' ctv)) (fun b u q=>ao _ q) (au _) (a0T (dw _ rfl));have kf:∀ b u,H b=some u->upd H h'.objs.size (frO (kla_obj name qual params body scope clos ((X.mg "__name__").getD .none) c' ctv)) b=some u:=fun b u q=>by rw [aQ (bY q ff)];exact q
  exact h h'.objs.size c' ctv _ _ _ I2 ff aH (rec.keep fun a o u q=>kf a _ q) (kf _ _ hT) (.inr ⟨c',rfl,rec.keep fun a o u q=>kf a _ q⟩) fun b u _ q=>kf b u q
end
theorem an2 {w:World} {K:bw} {k:Nat} {x:Str} {N ps:List Str} (S:ScX N ps x scope) (a0V:∀ y∈scope.names,y.1=x->y.2 ≠ .cell)
  {A:Around} {s:Shared} {H:Hp} {args:Args} {E:XK} {f:Addr} {pm ctv:Value}
  (hr:cR qt (k+1) A) (e0:vK P w K mg base A outer s H) (hf:H f=some (frO (kla_obj name qual params body scope [(x,cc)] pm c' ctv))) (rc:uU H c' qual) (hc:s.heap.IsCell cc (some u)) (hH:H cc=none) (rv:RelV vv u)
  (hb:bindArgs (kla_fn name qual params body scope [(x,cc)] pm (.ref c') ctv) args=pure (ps.zip us)) (r:Vals vs us) (hl:vs.length=ps.length) (hCX:∀ e s',CX outer H s (fun _ _ _=>False) e s'->False)
  (hbody:cR qt k (A.deeper (lQ qual scope s.heap.objs.size f (.ref c') [(x,cc)]))->∃ t,PE (cxX qt CX P w K mg base N qual scope f (.ref c') x cc A outer s H (fun _ _ _=>False)) body t/\t (start N (vv :: vs)) H Q) :
  codeAny (model P w) A (.call (.ref f) args) (CR CX outer P w H s Q E) s:=by
 have of':s.heap.get? f=some (kla_obj name qual params body scope [(x,cc)] pm c' ctv):=(e0.hok f _ hf).1;have lim:s.heap.NoLimit:=e0.mod.nolimit.keeps fun b o e=>(e0.bs b o e).1
 have hrec:s.heap.CodeRec (.ref c') qual:=by
  obtain ⟨oo,vs',t,e,d,q⟩:=rc;exact ⟨c',oo,vs',t,rfl,(e0.hok c' _ e).1,d,q⟩
 have hloc:∀ y∈ps.zip us,scope.names.lookup y.1=some .local:=fun ⟨n,v⟩ hy=>S.par n (a0r hy).1;refine kla_callFunE hr.depth of' rfl S.co S.gen rfl hrec ?_;rw [hb];refine bh (an0 S.kind hloc fun s1 y=>⟨lim.keeps y.call.keep,kla_codeExpr ?_⟩);obtain ⟨t,ht,hq⟩:=hbody (hr.deeper _);have I:Inv (cxX qt CX P w K mg base N qual scope f (.ref c') x cc A outer s H (fun _ _ _=>False)) [] (start N (vv :: vs)) H s1:=ab5 S a0V hr.hd e0 hl r hc hH rv y;exact wpAny_mono (ht [] s1 (start N (vv :: vs)) H _ I hq) (fun u' s' ⟨v,H',J,rv',q⟩=>⟨v,H',J.os,J.bare,J.base,J.hok,rv',q⟩) fun e s' hs=>wpAny_mono hs (fun _ s'' z=>(hCX _ _ z).elim) fun e' s'' z=>(hCX _ _ z).elim
end
variable {p:Addr}{e:Expr}{pins:List (Addr×Obj)}{v:V}{r:R2}{op op':CmpOp}
section
inductive D where
 | non | bl (b:Bool) | int (i:Int) | str (x:Str) | tup (xs:List D) | ref (a:Addr) | ty (n:String)
noncomputable abbrev Fg:=bw
abbrev a8M (H:Hp) (a:Addr) (xs:List V):Prop:=True
theorem ahK {H:Hp} {a:Addr} (h:H a=some (.tup xs)):a8M H a xs:=trivial
mutual
inductive RD (K:Fg) (H:Hp):D->V->Prop where
 | non:RD K H .non .non
 | bl (b:Bool):RD K H (.bl b) (.bl b)
 | int (i:Int):RD K H (.int i) (.int i)
 | str (x:Str):RD K H (.str x) (.str x)
 | ty (n:String):RD K H (.ty n) (.ty n)
 | ref (a:Addr):RD K H (.ref a) (.ref a)
 | tup {a:Addr} {xs:List V} {ds:List D}:qQ K H a xs->bV K H ds xs->a8M H a xs->RD K H (.tup ds) (.ref a)
inductive bV (K:Fg) (H:Hp):List D->List V->Prop where
 | nil:bV K H [] []
 | cons {d:D} {v:V} {ds:List D} {vs:List V}:RD K H d v->bV K H ds vs->bV K H (d :: ds) (v :: vs)
end
structure Ts (H H':Hp):Prop where
 tups:∀ a xs,H a=some (.tup xs)->H' a=some (.tup xs)
 eZ:∀ a o u,H a=some (.oJ o u)->H' a=some (.oJ o u)
theorem Ts.refl (H:Hp):Ts H H:=⟨fun _ _ h=>h,fun _ _ _ h=>h⟩
theorem Ts.trans {H H1 H2:Hp} (a:Ts H H1) (b:Ts H1 H2):Ts H H2:=⟨fun c xs h=>b.tups c xs (a.tups c xs h),fun c o u h=>b.eZ c o u (a.eZ c o u h)⟩
theorem Ts.same {H:Hp} (s:Same H H'):Ts H H':=⟨fun a _ h=>s a _ h,fun a _ _ h=>s a _ h⟩
theorem Ts.rd {H:Hp} (t:Ts H H') {a:Addr} (h:Rd H a (.tup xs)):Rd H' a (.tup xs):=by
 rcases h with h | ⟨o,h⟩
 ·exact .inl (t.tups _ _ h)
 ·exact .inr ⟨o,t.eZ _ _ _ h⟩
theorem Ts.sqT {K:Fg} {H:Hp} (t:Ts H H') {a:Addr} (h:qQ K H a xs):qQ K H' a xs:=h.elim (fun q => .inl (t.rd q)) .inr
theorem a8M.mono {H:Hp} (t:Ts H H') {a:Addr} (h:a8M H a xs):a8M H' a xs:=trivial
theorem bC {H:Hp} {o:HO} (h:H p=none):Same H (upd H p o):=fun b u e=>by
 rw [aQ (bY e h)];exact e
mutual
theorem RD.mono {K:Fg} {H H':Hp} (t:Ts H H'):∀ {d:D} {v:V},RD K H d v->RD K H' d v
 | _,_,.non => .non
 | _,_,.bl b => .bl b
 | _,_,.int i => .int i
 | _,_,.str x => .str x
 | _,_,.ty n => .ty n
 | _,_,.ref a => .ref a
 | _,_,.tup h r e => .tup (t.sqT h) (bV.mono t r) (e.mono t)
theorem bV.mono {K:Fg} {H H':Hp} (t:Ts H H'):∀ {ds:List D} {vs:List V},bV K H ds vs->bV K H' ds vs
 | _,_,.nil => .nil
 | _,_,.cons h r => .cons (RD.mono t h) (bV.mono t r)
end
section
variable {K:Fg} {H:Hp}
theorem bV.length:∀ {ds:List D} {vs:List V},bV K H ds vs->ds.length=vs.length
 | _,_,.nil=>rfl
 | _,_,.cons _ r=>congrArg (·+1) (bV.length r)
theorem bV.append:∀ {ds:List D} {vs:List V} {es:List D} {ws:List V},bV K H ds vs->bV K H es ws->bV K H (ds++es) (vs++ws)
 | _,_,_,_,.nil,s=>s
 | _,_,_,_,.cons h r,s => .cons h (bV.append r s)
theorem bV.get:∀ {ds:List D} {vs:List V} {i:Nat} {d:D},bV K H ds vs->ds[i]?=some d->∃ v,vs[i]?=some v/\RD K H d v
 | _,_,_,_,.nil,e=>by simp at e
 | _,_,0,_,.cons r _,e=>by simp at e;subst e;exact ⟨_,rfl,r⟩
 | _,_,i+1,d,.cons _ t,e=>by
  obtain ⟨u,h1,h2⟩:=bV.get (i:=i) (d:=d) t (by simpa using e);exact ⟨u,by simpa using h1,h2⟩
theorem bV.ahL:∀ {ds:List D} {vs:List V} {i:Nat} {v:V},bV K H ds vs->vs[i]?=some v->∃ d,ds[i]?=some d/\RD K H d v
 | _,_,_,_,.nil,e=>by simp at e
 | _,_,0,_,.cons r _,e=>by simp at e;subst e;exact ⟨_,rfl,r⟩
 | _,_,i+1,d,.cons _ t,e=>by
  obtain ⟨u,h1,h2⟩:=bV.ahL (i:=i) (v:=d) t (by simpa using e);exact ⟨u,by simpa using h1,h2⟩
theorem bV.set {d:D} {v:V} (r:RD K H d v):∀ {ds:List D} {vs:List V} (i:Nat),bV K H ds vs->bV K H (ds.set i d) (vs.set i v)
 | _,_,_,.nil => .nil
 | _,_,0,.cons _ t => .cons r t
 | _,_,i+1,.cons q t => .cons q (bV.set r i t)
theorem bV.drop:∀ {ds:List D} {vs:List V} (n:Nat),bV K H ds vs->bV K H (ds.drop n) (vs.drop n)
 | _,_,0,r=>r
 | _,_,_+1,.nil => .nil
 | _,_,n+1,.cons _ t=>bV.drop n t
theorem bV.take:∀ {ds:List D} {vs:List V} (n:Nat),bV K H ds vs->bV K H (ds.take n) (vs.take n)
 | _,_,0,_ => .nil
 | _,_,_+1,.nil => .nil
 | _,_,n+1,.cons r t => .cons r (bV.take n t)
theorem bV.ints (ns:List Int):bV K H (ns.map D.int) (ns.map V.int):=by
 induction ns with
 | nil=>exact .nil
 | cons n r ih=>exact .cons (.int n) ih
theorem bV.wO {ds:List D} (r:bV K H ds vs):vs=[]↔ds=[]:=by
 cases r <;> simp
end
noncomputable abbrev DK:=Key ⊕ List Key
structure ahM where
 name:Str
 qual:Str
 params:Arguments
 body:List Stmt
 scope:Scope
 x:Str
inductive GO where
 | lst (ds:List D) | rol (ds:List D) | dic (t:Bool) (kvs:List (DK×D)) | ins (C:Addr) (fs:List (Str×D)) | exn (C:Addr) | rdc (o:Obj) (t:Bool) (kvs:List (DK×D)) | tpl (ds:List D) | kst (ks:List (List Int)) | nst (ks:List NK) | tab (q:Str) (p:Pos) | clo (c:ahM) (d:D)
noncomputable abbrev Gp:=Addr->Option GO
noncomputable def aG (G:Gp) (a:Addr) (o:GO):Gp:=fun b=>if b=a then some o else G b
theorem aJ {G:Gp} {a:Addr} {o:GO}:aG G a o a=some o:=by unfold aG;rw [if_pos rfl]
theorem bJ {G:Gp} {a b:Addr} {o:GO} (h:b≠a):aG G a o b=G b:=by unfold aG;rw [if_neg h]
theorem bA {G:Gp} {a b:Addr} {o u:GO} (h:G b=some u) (n:G a=none):aG G a o b=some u:=by
 rw [bJ];exact h;intro e;subst e;rw [h] at n;cases n
def Le (G G':Gp):Prop:=∀ a o,G a=some o->G' a=some o
theorem Le.refl (G:Gp):Le G G:=fun _ _ h=>h
theorem Le.trans {G G1 G2:Gp} (a:Le G G1) (b:Le G1 G2):Le G G2:=fun c o h=>b c o (a c o h)
theorem Le.new {G:Gp} {a:Addr} {o:GO} (n:G a=none):Le G (aG G a o):=fun _ _ h=>bA h n
theorem Le.free {G G':Gp} (l:Le G G') {a:Addr} (h:G' a=none):G a=none:=by
 cases q:G a with
 | none=>rfl
 | some o=>have:=l a o q;rw [h] at this;cases this
noncomputable def kD:Key->D
 | .inl i => .int i
 | .inr x => .str x
noncomputable def dkD:DK->D
 | .inl k=>kD k
 | .inr ks => .tup (ks.map kD)
inductive Two {α β:Type} (P:α->β->Prop):List α->List β->Prop where
 | nil:Two P [] []
 | cons {a:α} {b:β} {as:List α} {bs:List β}:P a b->Two P as bs->Two P (a :: as) (b :: bs)
theorem Two.imp {α β:Type} {P Q:α->β->Prop} (f:∀ a b,P a b->Q a b):∀ {as:List α} {bs:List β},Two P as bs->Two Q as bs
 | _,_,.nil => .nil
 | _,_,.cons h r => .cons (f _ _ h) (Two.imp f r)
theorem Two.length {α β:Type} {P:α->β->Prop}:∀ {as:List α} {bs:List β},Two P as bs->as.length=bs.length
 | _,_,.nil=>rfl
 | _,_,.cons _ r=>congrArg (·+1) (Two.length r)
def a8N (C a:Addr) (h:Heap):Prop:=∃ o vs,h.get? a=some o/\o.cls = .ref C/\o.data = .fields vs
noncomputable def toI (ks:List Key):List Int:=ks.map fun k=>match k with
 | .inl i=>i
 | .inr _=>0
def aE2 (P:Program) (w:World) (a:Addr) (xs:List (List Key×Addr×Value)) (h:Heap):Prop:=(a == sysModules)=false/\∃ o es ep,h.get? a=some o/\o.ExactDict/\o.data = .dict es ep/\es.toList=xs.map (entryOfKey (tupleKind (bI P w)))/\(xs.map (·.1)).Nodup
def aE3 (P:Program) (w:World) (a:Addr) (xs:List (NK×Addr×Value)) (h:Heap):Prop:=(a == sysModules)=false/\∃ o es ep,h.get? a=some o/\o.ExactDict/\o.data = .dict es ep/\es.toList=xs.map (entryOfKey (atN P w))/\(xs.map (·.1)).Nodup
def NSq (K:Fg) (H:Hp) (k:NK) (a:Addr):Prop:=∃ b,qQ K H a [.ref b,.int k.2]/\qQ K H b (k.1.map V.int)
noncomputable def OR (K:Fg) (H:Hp) (a:Addr):GO->Prop
 | .lst ds=>∃ xs,H a=some (.lst xs)/\bV K H ds xs
 | .rol ds=>∃ xs,rF K H a xs/\bV K H ds xs
 | .dic t kvs=>(t=false/\∃ xs:List (Key×V),H a=some (.dK xs)/\Two (fun p q=>p.1 = .inl q.1/\RD K H p.2 q.2) kvs xs) ∨
   (t=true/\∃ xs:List (List Key×V),H a=some (.dT xs)/\Two (fun p q=>p.1 = .inr q.1/\RD K H p.2 q.2) kvs xs)
 | .ins C fs=>∃ (dx:Addr) (vs:List (Str×V)),H a=some (.ins C dx vs)/\Two (fun p q=>p.1=q.1/\RD K H p.2 q.2) fs vs
 | .rdc o t kvs=>(t=false/\∃ xs:List (Key×V),H a=some (.oJ o (.dK xs))/\Two (fun p q=>p.1 = .inl q.1/\RD K H p.2 q.2) kvs xs) ∨
   (t=true/\∃ xs:List (List Key×V),H a=some (.oJ o (.dT xs))/\Two (fun p q=>p.1 = .inr q.1/\RD K H p.2 q.2) kvs xs)
 | .tpl ds=>∃ xs,qQ K H a xs/\bV K H ds xs
 | .tab q p=>∃ ps,H a=some (.vH ps)/\wR H q p ps
 | .clo c d=>∃ (cc c':Addr) (doc pm ctv:Value) (ob:Obj) (u:Value) (v:V),H a=some (frO (PySem.W.fnMade c.name c.qual c.params c.body c.scope [(c.x,cc)] doc pm c' ctv))/\uU H c' c.qual/\H cc=some (frO ob)/\ob.data = .cell (some u)/\RelV v u/\RD K H d v
 | .nst ks=>∃ (P:Program) (w:World) (xs:List (NK×Addr×Value)),H a=some (.ext (aE3 P w a xs))/\xs.map (·.1)=ks/\∀ x∈xs,NSq K H x.1 x.2.1
 | .kst ks=>∃ (P:Program) (w:World) (xs:List (List Key×Addr×Value)),H a=some (.ext (aE2 P w a xs))/\(xs.map fun x=>toI x.1)=ks/\∀ x∈xs,x.1=(toI x.1).map Sum.inl/\qQ K H x.2.1 (x.1.map kV)
 | .exn C=>∃ o vs,H a=some (.oJ o (.ext (a8N C a)))/\o.data = .fields vs/\vs[2]?=some .none
def HR (K:Fg) (H:Hp) (G:Gp):Prop:=∀ a o,G a=some o->OR K H a o
theorem OR.keep {K:Fg} {H H':Hp} {a:Addr} {o:GO} (t:Ts H H') (h:OR K H a o) (k:∀ u,H a=some u->H' a=some u):OR K H' a o:=by
 cases o with
 | lst ds=>obtain ⟨xs,e,r⟩:=h;exact ⟨xs,k _ e,r.mono t⟩
 | rol ds =>
  obtain ⟨xs,e,r⟩:=h;refine ⟨xs,?_,r.mono t⟩;rcases e with (e | ⟨o,e⟩) | e
  ·exact .inl (.inl (k _ e))
  ·exact .inl (.inr ⟨o,k _ e⟩)
  ·exact .inr e
 | dic b kvs =>
  rcases h with ⟨z,xs,e,r⟩ | ⟨z,xs,e,r⟩
  ·exact .inl ⟨z,xs,k _ e,r.imp fun _ _ q=>⟨q.1,q.2.mono t⟩⟩
  ·exact .inr ⟨z,xs,k _ e,r.imp fun _ _ q=>⟨q.1,q.2.mono t⟩⟩
 | ins C fs=>obtain ⟨dx,vs,e,r⟩:=h;exact ⟨dx,vs,k _ e,r.imp fun _ _ q=>⟨q.1,q.2.mono t⟩⟩
 | rdc ob b kvs =>
  rcases h with ⟨z,xs,e,r⟩ | ⟨z,xs,e,r⟩
  ·exact .inl ⟨z,xs,k _ e,r.imp fun _ _ q=>⟨q.1,q.2.mono t⟩⟩
  ·exact .inr ⟨z,xs,k _ e,r.imp fun _ _ q=>⟨q.1,q.2.mono t⟩⟩
 | exn C=>obtain ⟨o,vs,e,r⟩:=h;exact ⟨o,vs,k _ e,r⟩
 | tpl ds=>obtain ⟨xs,e,r⟩:=h;exact ⟨xs,t.sqT e,r.mono t⟩
 | kst ks=>obtain ⟨P,w,xs,e,r,q⟩:=h;exact ⟨P,w,xs,k _ e,r,fun x hx=>⟨(q x hx).1,t.sqT (q x hx).2⟩⟩
 | nst ks=>obtain ⟨P,w,xs,e,r,q⟩:=h;exact ⟨P,w,xs,k _ e,r,fun x hx=>(q x hx).elim fun b z=>⟨b,t.sqT z.1,t.sqT z.2⟩⟩
 | tab q p=>obtain ⟨ps,e,r⟩:=h;exact ⟨ps,k _ e,r.keep fun a o φ=>t.eZ a o _⟩
 | clo c d=>obtain ⟨cc,c',doc,pm,ctv,ob,u,v,e1,e2,e3,e4,e5,e6⟩:=h;exact ⟨cc,c',doc,pm,ctv,ob,u,v,k _ e1,e2.keep fun a o φ=>t.eZ a o _,t.eZ _ _ _ e3,e4,e5,e6.mono t⟩
theorem HR.same {K:Fg} {H H':Hp} {G:Gp} (h:HR K H G) (s:Same H H'):HR K H' G:=fun a o e=>(h a o e).keep (.same s) fun u q=>s a u q
theorem HR.le {K:Fg} {H:Hp} {G G':Gp} (h:HR K H G') (l:Le G G'):HR K H G:=fun a o e=>h a o (l a o e)
theorem HR.put {K:Fg} {H:Hp} {G:Gp} {o:HO} {u:GO} (h:HR K H G) (n:H p=none) (new:OR K (upd H p o) p u):HR K (upd H p o) (aG G p u):=fun a v e=>by
 by_cases q:a=p
 ·subst q;rw [aJ] at e;cases e;exact new
 ·rw [bJ q] at e;exact (h a v e).keep (.same (bC n)) fun w z=>bC n a w z
theorem HR.turn {K:Fg} {H:Hp} {G:Gp} {o:HO} {u:GO} (h:HR K H G) (t:Ts H (upd H p o)) (new:OR K (upd H p o) p u):HR K (upd H p o) (aG G p u):=fun a v e=>by
 by_cases q:a=p
 ·subst q;rw [aJ] at e;cases e;exact new
 ·rw [bJ q] at e;exact (h a v e).keep t fun w z=>by rw [aQ q];exact z
theorem Ts.turn {H:Hp} {o u:HO} (e:H p=some u) (h1:∀ xs,u ≠ .tup xs) (h2:∀ ob w,u ≠ .oJ ob w):Ts H (upd H p o):=by
 refine ⟨fun a xs q=>?_,fun a ob w q=>?_⟩
 ·rw [aQ];exact q;intro z;subst z;rw [e] at q;exact h1 xs (ig.inj q)
 ·rw [aQ];exact q;intro z;subst z;rw [e] at q;exact h2 ob w (ig.inj q)
noncomputable abbrev aN:=List (Option D)
abbrev dX:=D->Gp->Prop
abbrev cF:=aN->Gp->dX->Prop
abbrev vM:=aN->Gp->(Bool->Gp->Prop)->Prop
abbrev pK:=aN->Gp->(List D->Gp->Prop)->Prop
noncomputable def at3:aN->Nat->Option D
 | [],_=>none
 | x :: _,0=>x
 | _ :: r,n+1=>at3 r n
noncomputable def uP:aN->Nat->D->aN
 | [],_,_=>[]
 | _ :: r,0,d=>some d :: r
 | x :: r,n+1,d=>x :: uP r n d
inductive SR (K:Fg) (H:Hp):aN->St->Prop where
 | nil:SR K H [] []
 | none {ρ:aN} {σ:St} {v:Option V}:SR K H ρ σ->SR K H (yg :: ρ) (v :: σ)
 | some {ρ:aN} {σ:St} {d:D} {v:V}:RD K H d v->SR K H ρ σ->SR K H (ig d :: ρ) (ig v :: σ)
theorem SR.mono {K:Fg} {H H':Hp} (t:Ts H H'):∀ {ρ:aN} {σ:St},SR K H ρ σ->SR K H' ρ σ
 | _,_,.nil => .nil
 | _,_,.none r => .none (SR.mono t r)
 | _,_,.some h r => .some (h.mono t) (SR.mono t r)
theorem SR.get {K:Fg} {H:Hp}:∀ {ρ:aN} {σ:St} {i:Nat} {d:D},SR K H ρ σ->at3 ρ i=ig d->∃ v,σ[i]?=ig (ig v)/\RD K H d v
 | _,_,_,_,.nil,e=>by simp [at3] at e
 | _,_,0,_,.none _,e=>by simp [at3] at e
 | _,_,0,_,.some h _,e=>by simp [at3] at e;subst e;exact ⟨_,rfl,h⟩
 | _,_,i+1,_,.none r,e=>by
  obtain ⟨v,h1,h2⟩:=SR.get (i:=i) r (by simpa [at3] using e);exact ⟨v,by simpa using h1,h2⟩
 | _,_,i+1,_,.some _ r,e=>by
  obtain ⟨v,h1,h2⟩:=SR.get (i:=i) r (by simpa [at3] using e);exact ⟨v,by simpa using h1,h2⟩
theorem SR.set {K:Fg} {H:Hp} {d:D} {v:V} (q:RD K H d v):∀ {ρ:aN} {σ:St} (i:Nat),SR K H ρ σ->SR K H (uP ρ i d) (σ.set i (ig v))
 | _,_,_,.nil => .nil
 | _,_,0,.none r => .some q r
 | _,_,0,.some _ r => .some q r
 | _,_,i+1,.none r => .none (SR.set q i r)
 | _,_,i+1,.some h r => .some h (SR.set q i r)
theorem SR.len {K:Fg} {H:Hp}:∀ {ρ:aN} {σ:St},SR K H ρ σ->ρ.length=σ.length
 | _,_,.nil=>rfl
 | _,_,.none r=>congrArg (·+1) (SR.len r)
 | _,_,.some _ r=>congrArg (·+1) (SR.len r)
noncomputable def pO (n:Nat) (ds:List D):aN:=ds.map ig++gq (n - ds.length) yg
theorem SR.nones {K:Fg} {H:Hp}:∀ n:Nat,SR K H (gq n yg) (gq n yg)
 | 0 => .nil
 | n+1 => .none (SR.nones n)
theorem SR.entry {K:Fg} {H:Hp} {k:Nat}:∀ {ds:List D} {vs:List V},bV K H ds vs->SR K H (ds.map ig++gq k yg) (vs.map ig++gq k yg)
 | _,_,.nil=>SR.nones k
 | _,_,.cons h r => .some h (SR.entry r)
noncomputable def upE (K:Fg) (t:cF):TE:=fun σ H Q=>∃ ρ G R,SR K H ρ σ/\HR K H G/\t ρ G R/\∀ v H' d G',Ts H H'->RD K H' d v->HR K H' G'->R d G'->Q v H'
noncomputable def upT (K:Fg) (t:vM):TT:=fun σ H Q=>∃ ρ G R,SR K H ρ σ/\HR K H G/\t ρ G R/\∀ b H' G',Ts H H'->HR K H' G'->R b G'->Q b H'
noncomputable def upA (K:Fg) (t:pK):TA:=fun σ H Q=>∃ ρ G R,SR K H ρ σ/\HR K H G/\t ρ G R/\∀ vs H' ds G',Ts H H'->bV K H' ds vs->HR K H' G'->R ds G'->Q vs H'
abbrev cM (X:Cx) (e:Expr) (t:cF):Prop:=PE X e (upE X.K t)
abbrev PT3 (X:Cx) (e:Expr) (t:vM):Prop:=PT X e (upT X.K t)
abbrev PW3 (X:Cx) (e:Expr) (t:vM):Prop:=PW X e (upT X.K t)
abbrev PA3 (X:Cx) (es:List Expr) (t:pK):Prop:=PA X es (upA X.K t)
structure cH where
 nx:aN->Gp->Prop
 rt:dX
 bk:aN->Gp->Prop:=fun _ _=>False
 ct:aN->Gp->Prop:=fun _ _=>False
abbrev bH:=cH->aN->Gp->Prop
structure UpD (K:Fg) (E:cH) (F:Ends):Prop where
 nx:∀ ρ G σ H',SR K H' ρ σ->HR K H' G->E.nx ρ G->F.nx σ H'
 rt:∀ d G v H',RD K H' d v->HR K H' G->E.rt d G->F.rt v H'
 bk:∀ ρ G σ H',SR K H' ρ σ->HR K H' G->E.bk ρ G->F.bk σ H'
 ct:∀ ρ G σ H',SR K H' ρ σ->HR K H' G->E.ct ρ G->F.ct σ H'
noncomputable def upS (K:Fg) (t:bH):TS:=fun F σ H=>∃ ρ G E,SR K H ρ σ/\HR K H G/\t E ρ G/\UpD K E F
abbrev PS3 (X:Cx) (st:Stmt) (t:bH):Prop:=PS X st (upS X.K t)
abbrev yP (X:Cx) (st:List Stmt) (t:bH):Prop:=PSs X st (upS X.K t)
section
variable {X:Cx}
theorem PE.imp {t t':TE} (h:PE X e t) (k:∀ σ H Q,t' σ H Q->t σ H Q):PE X e t':=fun pins s σ H Q I q=>h pins s σ H Q I (k _ _ _ q)
theorem PT.imp {t t':TT} (h:PT X e t) (k:∀ σ H Q,t' σ H Q->t σ H Q):PT X e t':=fun pins s σ H Q I q=>h pins s σ H Q I (k _ _ _ q)
theorem PW.imp {t t':TT} (h:PW X e t) (k:∀ σ H Q,t' σ H Q->t σ H Q):PW X e t':=fun wh pins s σ H Q I q=>h wh pins s σ H Q I (k _ _ _ q)
theorem PA.imp {e:List Expr} {t t':TA} (h:PA X e t) (k:∀ σ H Q,t' σ H Q->t σ H Q):PA X e t':=fun p pins s σ H Q I q=>h p pins s σ H Q I (k _ _ _ q)
theorem PS.imp {e:Stmt} {t t':TS} (h:PS X e t) (k:∀ F σ H,t' F σ H->t F σ H):PS X e t':=fun pins s σ H F I q=>h pins s σ H F I (k _ _ _ q)
def KF (K:Fg) (H:Hp):Prop:=∀ b o,K.lookup b=some o->H b=none
theorem uV {σ:St} {H:Hp} {s:Shared} (I:Inv X pins σ H s):KF X.K H:=fun b o e=>(I.bs b o (I.ok.mod.kin b o e)).2
theorem PE.kf {t:TE} (h:PE X e t):PE X e (fun σ H Q=>t σ H fun v H'=>KF X.K H'->Q v H'):=fun pins s σ H Q I q =>
 cL (h pins s σ H _ I q) fun _ _ ⟨v,H',I',r,q'⟩=>⟨v,H',I',r,q' (uV I')⟩
theorem PSs.imp {e:List Stmt} {t t':TS} (h:PSs X e t) (k:∀ F σ H,t' F σ H->t F σ H):PSs X e t':=fun pins s σ H F I q=>h pins s σ H F I (k _ _ _ q)
end
theorem lR {K:Fg} {H:Hp} {G:Gp} {o:HO} (g:HR K H G) (n:H p=none) (k:KF K (upd H p o)):G p=none:=by
 have kn:K.lookup p=none:=by
  cases q:K.lookup p with
  | none=>rfl
  | some u=>have:=k p u q;rw [aH] at this;cases this
 cases q:G p with
 | none=>rfl
 | some u =>
  have z:=g p u q;cases u with
  | lst ds=>obtain ⟨xs,e,_⟩:=z;rw [n] at e;cases e
  | rol ds =>
   obtain ⟨xs,e,_⟩:=z;rcases e with (e | ⟨o,e⟩) | ⟨o,_,_,e,_⟩
   ·rw [n] at e;cases e
   ·rw [n] at e;cases e
   ·rw [kn] at e;cases e
  | dic tt kvs =>
   rcases z with ⟨_,xs,e,_⟩ | ⟨_,xs,e,_⟩
   ·rw [n] at e;cases e
   ·rw [n] at e;cases e
  | rdc ob tt kvs =>
   rcases z with ⟨_,xs,e,_⟩ | ⟨_,xs,e,_⟩
   ·rw [n] at e;cases e
   ·rw [n] at e;cases e
  | ins C fs=>obtain ⟨dx,vs,e,_⟩:=z;rw [n] at e;cases e
  | exn C=>obtain ⟨o,vs,e,_⟩:=z;rw [n] at e;cases e
  | kst ks=>obtain ⟨_,_,_,e,_⟩:=z;rw [n] at e;cases e
  | nst ks=>obtain ⟨_,_,_,e,_⟩:=z;rw [n] at e;cases e
  | tab q p=>obtain ⟨_,e,_⟩:=z;rw [n] at e;cases e
  | clo c d=>obtain ⟨_,_,_,_,_,_,_,_,e,_⟩:=z;rw [n] at e;cases e
  | tpl ds =>
   obtain ⟨xs,e,_⟩:=z;rcases e with (e | ⟨o,e⟩) | ⟨o,_,_,e,_⟩
   ·rw [n] at e;cases e
   ·rw [n] at e;cases e
   ·rw [kn] at e;cases e
section
variable {X:Cx} {a b c:Expr} {ta tb tc:cF} {pos:Pos}
noncomputable def aA (i:Nat):cF:=fun ρ G R=>match at3 ρ i with
 | some d=>R d G
 | none=>False
noncomputable def aR (d:D):cF:=fun _ G R=>R d G
theorem atP {K:Fg} {i:Nat} {σ:St} {H:Hp} (h:upE K (aA i) σ H Q):ay3 i σ H Q:=by
 obtain ⟨ρ,G,R,s,g,t,k⟩:=h;unfold aA at t;split at t
 ·rename_i d e;obtain ⟨v,h1,h2⟩:=s.get e;exact ⟨v,h1,k v H d G (.refl H) h2 g t⟩
 ·exact t.elim
theorem afJ {K:Fg} {d:D} (r:∀ H,RD K H d v) {σ:St} {H:Hp} (h:upE K (aR d) σ H Q):tC v σ H Q:=by
 obtain ⟨ρ,G,R,s,g,t,k⟩:=h;exact k v H d G (.refl H) (r H) g t
theorem aqD (i:Nat) {x:Str} {pos:Pos} (hN:X.N[i]?=some x:=by rfl) (hv:Vis X.env.scope x:=by first | exact Or.inl rfl | exact Or.inr (Or.inl rfl) | exact Or.inr (Or.inr rfl)) (hd:(x == ("__debug__" : Str))=false:=by decide)
  (hcd:(x == ("__classdict__" : Str))=false:=by decide):cM X (.Name x pos) (aA i):=PE.imp (arZ hN hv hd hcd) fun _ _ _ h=>atP h
theorem az2 {i j pos}:cM X (.Constant (.int i) j pos) (aR (.int i)):=PE.imp as4 fun _ _ _ h=>afJ (fun _ => .int i) h
theorem aE4 {b j pos}:cM X (.Constant (.bool b) j pos) (aR (.bl b)):=PE.imp ay4 fun _ _ _ h=>afJ (fun _ => .bl b) h
theorem az3 {j pos}:cM X (.Constant .none j pos) (aR .non):=PE.imp as5 fun _ _ _ h=>afJ (fun _ => .non) h
theorem az4 {x j pos}:cM X (.Constant (.str x) j pos) (aR (.str x)):=PE.imp as6 fun _ _ _ h=>afJ (fun _ => .str x) h
theorem ahN {x:Str} {d:D} {pos:Pos} (hg:Gl X x) (hm:X.mg x=some u) (r:RelV v u) (rd:∀ H,RD X.K H d v) (hd:(x == ("__debug__" : Str))=false:=by decide):cM X (.Name x pos) (aR d) :=
 PE.imp (am4 hg hm r hd) fun _ _ _ h=>afJ rd h
theorem atR {x:Str} {n:String} {pos:Pos} (hg:Gl X x) (hm:X.mg x=none) (hv:bootBuiltins x=some (.type n)) (hn:x ≠ "__name__" := by decide) (hd:(x == ("__debug__" : Str))=false:=by decide):cM X (.Name x pos) (aR (.ty n)) :=
 PE.imp (am5 hg hm hv (v := .ty n) rfl hn hd) fun _ _ _ h=>afJ (fun _ => .ty n) h
abbrev R3:=D->D->Gp->dX->Prop
def OpI (K:Fg) (r:R2) (r3:R3):Prop:=∀ (H:Hp) (x y:D) (vx vy:V) (G:Gp) (R:dX) (Q:VK),RD K H x vx->RD K H y vy->HR K H G->r3 x y G R->(∀ v H' d G',Ts H H'->RD K H' d v->HR K H' G'->R d G'->Q v H')->r vx vy H fun v H'=>KF K H'->Q v H'
def a0W (X:Cx) (f:Value->Value->Sem Value) (r3:R3):Prop:=∃ r,mQ X f r/\OpI X.K r r3
def OpC (K:Fg) (r:R2) (r3:R3):Prop:=∀ (H:Hp) (x y:D) (vx vy:V) (G:Gp) (R:dX) (Q:VK),RD K H x vx->RD K H y vy->HR K H G->r3 x y G R->(∀ v H' d G',Ts H H'->RD K H' d v->HR K H' G'->R d G'->Q v H')->r vx vy H Q
def mV (X:Cx) (f:Value->Value->Sem Value) (r3:R3):Prop:=∃ r,mQ X f r/\OpC X.K r r3
noncomputable def aC (r:R3) (ta tb:cF):cF:=fun ρ G R=>ta ρ G fun x G1=>tb ρ G1 fun y G2=>r x y G2 R
variable {r3:R3}
theorem az5 {K:Fg} (o:OpI K r r3) {σ:St} {H:Hp} (h:upE K (aC r3 ta tb) σ H Q):tOp r (upE K ta) (upE K tb) σ H fun v H'=>KF K H'->Q v H':=by
 obtain ⟨ρ,G,R,s,g,t,k⟩:=h;refine ⟨ρ,G,_,s,g,t,fun vx H1 x G1 t1 rx g1 t'=>?_⟩;refine ⟨ρ,G1,_,s.mono t1,g1,t',fun vy H2 y G2 t2 ry g2 t''=>?_⟩;exact o H2 x y vx vy G2 R Q (rx.mono t2) ry g2 t'' fun v H' d G' t3=>k v H' d G' ((t1.trans t2).trans t3)
theorem ab9 {K:Fg} (o:OpC K r r3) {σ:St} {H:Hp} (h:upE K (aC r3 ta tb) σ H Q):tOp r (upE K ta) (upE K tb) σ H Q:=by
 obtain ⟨ρ,G,R,s,g,t,k⟩:=h;refine ⟨ρ,G,_,s,g,t,fun vx H1 x G1 t1 rx g1 t'=>?_⟩;refine ⟨ρ,G1,_,s.mono t1,g1,t',fun vy H2 y G2 t2 ry g2 t''=>?_⟩;exact o H2 x y vx vy G2 R Q (rx.mono t2) ry g2 t'' fun v H' d G' t3=>k v H' d G' ((t1.trans t2).trans t3)
theorem aE5 {op:Operator} (o:a0W X (binaryOp op) r3) (ha:cM X a ta) (hb:cM X b tb):cM X (.BinOp a op b pos) (aC r3 ta tb):=by
 obtain ⟨r,o1,o2⟩:=o;exact PE.imp (PE.kf (ayL o1 ha hb)) fun _ _ _ h=>az5 o2 h
theorem aqE (o:mV X (compareOp op) r3) (ha:cM X a ta) (hb:cM X b tb) (hm:behindInMarks op b=false):cM X (.Compare a [op] [b] pos) (aC r3 ta tb):=by
 obtain ⟨r,o1,o2⟩:=o;exact PE.imp (amL o1 ha hb hm) fun _ _ _ h=>ab9 o2 h
noncomputable def aO (t:cF):vM:=fun ρ G R=>t ρ G fun x G1=>match x with
 | .bl k=>R k G1
 | _=>False
theorem a69 {K:Fg} {t:TE} {t3:cF} (f:∀ σ H Q,upE K t3 σ H Q->t σ H Q) {σ:St} {H:Hp} {Q:Bool->Hp->Prop} (h:upT K (aO t3) σ H Q):agZ t σ H Q:=by
 obtain ⟨ρ,G,R,s,g,u,k⟩:=h;refine f _ _ _ ⟨ρ,G,_,s,g,u,fun v H' d G' t1 r g1 q=>?_⟩;cases r with
 | bl b=>exact ⟨b,rfl,k b H' G' t1 g1 q⟩
 | _=>exact q.elim
theorem aqF (o:mV X (compareOp op) r3) (ha:cM X a ta) (hb:cM X b tb) (hm:behindInMarks op b=false):PT3 X (.Compare a [op] [b] pos) (aO (aC r3 ta tb)):=by
 obtain ⟨r,o1,o2⟩:=o;exact PT.imp (amM o1 ha hb hm) fun _ _ _ h=>a69 (fun _ _ _=>ab9 o2) h
theorem az6 {t:cF} (h:cM X e t) (he:∀ whole,isTrue e X.env whole=(do let v ← whole;standAt e.pos;holding [v] (truthy v)):=by intro _;rfl):PT3 X e (aO t) :=
 PT.imp (as7 h he) fun _ _ _ h=>a69 (fun _ _ _ q=>q) h
noncomputable def jT (r r':R3) (ta tb tc:cF):cF:=fun ρ G R=>ta ρ G fun x G1=>tb ρ G1 fun y G2=>r x y G2 fun z G3=>match z with
 | .bl true=>tc ρ G3 fun w G4=>r' y w G4 R
 | .bl false=>R (.bl false) G3
 | _=>False
variable {r3':R3}
theorem a8O {K:Fg} {r':R2} (o:OpC K r r3) (o':OpC K r' r3') {σ:St} {H:Hp} (h:upE K (jT r3 r3' ta tb tc) σ H Q):aaU r r' (upE K ta) (upE K tb) (upE K tc) σ H Q:=by
 obtain ⟨ρ,G,R,s,g,t,k⟩:=h;refine ⟨ρ,G,_,s,g,t,fun vx H1 x G1 t1 rx g1 t'=>?_⟩;refine ⟨ρ,G1,_,s.mono t1,g1,t',fun vy H2 y G2 t2 ry g2 t''=>?_⟩;refine o H2 x y vx vy G2 _ _ (rx.mono t2) ry g2 t'' fun v H3 d G3 t3 rd g3 q=>?_;cases rd with
 | bl b =>
  refine ⟨b,rfl,?_⟩;cases b with
  | true =>
   rw [if_pos rfl];refine ⟨ρ,G3,_,s.mono ((t1.trans t2).trans t3),g3,q,fun vw H4 w G4 t4 mU g4 q'=>?_⟩;exact o' H4 y w vy vw G4 R Q (ry.mono (t3.trans t4)) mU g4 q' fun v H' d G' t5=>k v H' d G' (((t1.trans t2).trans t3).trans (t4.trans t5))
  | false =>
   rw [if_neg jr];exact k _ H3 _ G3 ((t1.trans t2).trans t3) (.bl false) g3 q
 | _=>exact q.elim
theorem an4 (o:mV X (compareOp op) r3) (o':mV X (compareOp op') r3') (ha:cM X a ta) (hb:cM X b tb) (hc:cM X c tc)
  (hm:lastMarks [op,op'] [b,c]=false:=by with_unfolding_all rfl):cM X (.Compare a [op,op'] [b,c] pos) (jT r3 r3' ta tb tc):=by
 obtain ⟨r,o1,o2⟩:=o;obtain ⟨r',o1',o2'⟩:=o';exact PE.imp (ah0 o1 o1' ha hb hc hm) fun _ _ _ h=>a8O o2 o2' h
theorem an5 (o:mV X (compareOp op) r3) (o':mV X (compareOp op') r3') (ha:cM X a ta) (hb:cM X b tb) (hc:cM X c tc)
  (hm:lastMarks [op,op'] [b,c]=false:=by with_unfolding_all rfl):PT3 X (.Compare a [op,op'] [b,c] pos) (aO (jT r3 r3' ta tb tc)):=by
 obtain ⟨r,o1,o2⟩:=o;obtain ⟨r',o1',o2'⟩:=o';exact PT.imp (ah1 o1 o1' ha hb hc hm) fun _ _ _ h=>a69 (fun _ _ _=>a8O o2 o2') h
variable {sa sb:vM} {rest:List Expr}
noncomputable def qU (t u:vM):vM:=fun ρ G R=>t ρ G fun c G1=>if c=true then u ρ G1 R else R false G1
noncomputable def a0X (t u:vM):vM:=fun ρ G R=>t ρ G fun c G1=>if c=true then R true G1 else u ρ G1 R
noncomputable def rO (t:vM):vM:=fun ρ G R=>t ρ G fun c G1=>R (!c) G1
theorem atU {K:Fg} {σ:St} {H:Hp} {Q:Bool->Hp->Prop} (h:upT K (qU sa sb) σ H Q):ay5 (upT K sa) (upT K sb) σ H Q:=by
 obtain ⟨ρ,G,R,s,g,t,k⟩:=h;refine ⟨ρ,G,_,s,g,t,fun c H1 G1 t1 g1 q=>?_⟩;cases c with
 | true=>exact ⟨ρ,G1,R,s.mono t1,g1,q,fun b H' G' t2=>k b H' G' (t1.trans t2)⟩
 | false=>exact k false H1 G1 t1 g1 q
theorem az7 {K:Fg} {σ:St} {H:Hp} {Q:Bool->Hp->Prop} (h:upT K (a0X sa sb) σ H Q):tOr (upT K sa) (upT K sb) σ H Q:=by
 obtain ⟨ρ,G,R,s,g,t,k⟩:=h;refine ⟨ρ,G,_,s,g,t,fun c H1 G1 t1 g1 q=>?_⟩;cases c with
 | false=>exact ⟨ρ,G1,R,s.mono t1,g1,q,fun b H' G' t2=>k b H' G' (t1.trans t2)⟩
 | true=>exact k true H1 G1 t1 g1 q
theorem atV (ha:PT3 X a sa):PW3 X (.BoolOp .And [a] pos) sa:=am6 ha
theorem az8 (ha:PT3 X a sa):PW3 X (.BoolOp .Or [a] pos) sa:=as8 ha
theorem az9 (ha:PT3 X a sa) (hb:PW3 X (.BoolOp .And (b :: rest) pos) sb):PW3 X (.BoolOp .And (a :: b :: rest) pos) (qU sa sb):=PW.imp (as9 ha hb) fun _ _ _ h=>atU h
theorem aE6 (ha:PT3 X a sa) (hb:PW3 X (.BoolOp .Or (b :: rest) pos) sb):PW3 X (.BoolOp .Or (a :: b :: rest) pos) (a0X sa sb):=PW.imp (ay7 ha hb) fun _ _ _ h=>az7 h
theorem azA (ha:PT3 X a sa):PT3 X (.UnaryOp .Not a pos) (rO sa):=PT.imp (asA ha) fun σ H Q h=>by
 obtain ⟨ρ,G,R,s,g,t,k⟩:=h;exact ⟨ρ,G,_,s,g,t,fun c H1 G1 t1 g1 q=>k (!c) H1 G1 t1 g1 q⟩
noncomputable def rP (ta tb:cF):cF:=fun ρ G R=>ta ρ G fun x G1=>match x with
 | .bl true=>tb ρ G1 R
 | .bl false=>R (.bl false) G1
 | _=>False
noncomputable def aqG (ta tb:cF):cF:=fun ρ G R=>ta ρ G fun x G1=>match x with
 | .bl true=>R (.bl true) G1
 | .bl false=>tb ρ G1 R
 | _=>False
noncomputable def a6A (ta:cF):cF:=fun ρ G R=>ta ρ G fun x G1=>match x with
 | .bl c=>R (.bl (!c)) G1
 | _=>False
theorem aqH {op} (h:cM X a ta):cM X (.BoolOp op [a] pos) ta:=asB h
theorem azB (ha:cM X a ta) (hb:cM X (.BoolOp .And (b :: rest) pos) tb):cM X (.BoolOp .And (a :: b :: rest) pos) (rP ta tb):=PE.imp (asC ha hb) fun σ H Q h=>by
 obtain ⟨ρ,G,R,s,g,t,k⟩:=h;refine ⟨ρ,G,_,s,g,t,fun v H1 x G1 t1 r g1 q=>?_⟩;cases r with
 | bl c =>
  refine ⟨c,rfl,?_⟩;cases c with
  | true=>exact ⟨ρ,G1,R,s.mono t1,g1,q,fun b H' d G' t2=>k b H' d G' (t1.trans t2)⟩
  | false=>exact k _ H1 _ G1 t1 (.bl false) g1 q
 | _=>exact q.elim
theorem aE7 (ha:cM X a ta) (hb:cM X (.BoolOp .Or (b :: rest) pos) tb):cM X (.BoolOp .Or (a :: b :: rest) pos) (aqG ta tb):=PE.imp (ayA ha hb) fun σ H Q h=>by
 obtain ⟨ρ,G,R,s,g,t,k⟩:=h;refine ⟨ρ,G,_,s,g,t,fun v H1 x G1 t1 r g1 q=>?_⟩;cases r with
 | bl c =>
  refine ⟨c,rfl,?_⟩;cases c with
  | false=>exact ⟨ρ,G1,R,s.mono t1,g1,q,fun b H' d G' t2=>k b H' d G' (t1.trans t2)⟩
  | true=>exact k _ H1 _ G1 t1 (.bl true) g1 q
 | _=>exact q.elim
theorem azC (ha:cM X a ta):cM X (.UnaryOp .Not a pos) (a6A ta):=PE.imp (asD ha) fun σ H Q h=>by
 obtain ⟨ρ,G,R,s,g,t,k⟩:=h;refine ⟨ρ,G,_,s,g,t,fun v H1 x G1 t1 r g1 q=>?_⟩;cases r with
 | bl c=>exact ⟨c,rfl,k _ H1 _ G1 t1 (.bl _) g1 q⟩
 | _=>exact q.elim
noncomputable def an6 (t:vM) (ta tb:cF):cF:=fun ρ G R=>t ρ G fun c G1=>if c=true then ta ρ G1 R else tb ρ G1 R
theorem an7 {c:Expr} (hc:PT3 X c sa) (ha:cM X a ta) (hb:cM X b tb):cM X (.IfExp c a b pos) (an6 sa ta tb):=PE.imp (agR hc ha hb) fun σ H Q h=>by
 obtain ⟨ρ,G,R,s,g,t,k⟩:=h;refine ⟨ρ,G,_,s,g,t,fun c H1 G1 t1 g1 q=>?_⟩;cases c with
 | true=>exact ⟨ρ,G1,R,s.mono t1,g1,q,fun b H' d G' t2=>k b H' d G' (t1.trans t2)⟩
 | false=>exact ⟨ρ,G1,R,s.mono t1,g1,q,fun b H' d G' t2=>k b H' d G' (t1.trans t2)⟩
end
section
variable {X:Cx} {e:Expr} {es:List Expr} {te:cF} {t:pK} {pos:Pos}
noncomputable def aD:pK:=fun _ G R=>R [] G
noncomputable def aB (ta:cF) (tr:pK):pK:=fun ρ G R=>ta ρ G fun x G1=>tr ρ G1 fun xs G2=>R (x :: xs) G2
theorem a4L:PA3 X [] aD:=PA.imp at4 fun σ H Q h=>by
 obtain ⟨ρ,G,R,s,g,t,k⟩:=h;exact k [] H [] G (.refl H) .nil g t
theorem rQ (ha:cM X e te) (hr:PA3 X es t) (hs:starEach (e :: es) X.env=(false,eval e X.env) :: starEach es X.env:=by rfl):PA3 X (e :: es) (aB te t):=PA.imp (amN ha hr hs) fun σ H Q h=>by
 obtain ⟨ρ,G,R,s,g,t,k⟩:=h;refine ⟨ρ,G,_,s,g,t,fun v H1 x G1 t1 r g1 q=>?_⟩;refine ⟨ρ,G1,_,s.mono t1,g1,q,fun vs H2 xs G2 t2 rs g2 q'=>?_⟩;exact k (v :: vs) H2 (x :: xs) G2 (t1.trans t2) (.cons (r.mono t2) rs) g2 q'
noncomputable def fL (t:pK):cF:=fun ρ G R=>t ρ G fun xs G1=>xs.length<=sizeLine/\R (.tup xs) G1
noncomputable def jH (t:pK):cF:=fun ρ G R=>t ρ G fun xs G1=>xs.length<=sizeLine/\∀ p,G1 p=none->R (.ref p) (aG G1 p (.lst xs))
theorem azD {x1} (h:PA3 X es t):cM X (.Tuple es x1 pos) (fL t):=PE.imp (at5 h) fun σ H Q h=>by
 obtain ⟨ρ,G,R,s,g,t,k⟩:=h;refine ⟨ρ,G,_,s,g,t,fun vs H1 xs G1 t1 r g1 q=>?_⟩;refine ⟨by rw [← r.length];exact q.1,fun p hp=>?_⟩;have sn:Same H1 (upd H1 p (.tup vs)):=bC hp;exact k (.ref p) _ (.tup xs) G1 (t1.trans (.same sn)) (.tup (qQ.of aH) (r.mono (.same sn)) (ahK aH)) (g1.same sn) q.2
theorem azE (h:PA3 X es t):cM X (.List es pos) (jH t):=PE.imp (PE.kf (at6 h)) fun σ H Q h=>by
 obtain ⟨ρ,G,R,s,g,t,k⟩:=h;refine ⟨ρ,G,_,s,g,t,fun vs H1 xs G1 t1 r g1 q=>?_⟩;refine ⟨by rw [← r.length];exact q.1,fun p hp kf=>?_⟩;have sn:Same H1 (upd H1 p (.lst vs)):=bC hp;exact k (.ref p) _ (.ref p) _ (t1.trans (.same sn)) (.ref p) (g1.put (u := .lst xs) hp ⟨vs,aH,r.mono (.same sn)⟩) (q.2 p (lR g1 hp kf))
end
end
variable {ds:List D}{te:cF}
section
section
variable {X:Cx} {a b c:Expr} {ta tb tc:cF} {pos:Pos}
noncomputable def rI3 (C:Int->Int->Prop) (g:Int->Int->Int):R3:=fun x y G R=>match x,y with
 | .int i,.int j=>C i j/\R (.int (g i j)) G
 | _,_=>False
noncomputable def azF (g:Int->Int->Int):R3:=fun x y G R=>match x,y with
 | .int i,.int j=>R (.int (g i j)) G
 | _,_=>False
noncomputable def an8 (g:Int->Int->Bool):R3:=fun x y G R=>match x,y with
 | .int i,.int j=>R (.bl (g i j)) G
 | _,_=>False
theorem ahO {f:Value->Value->Sem Value} {C:Int->Int->Prop} {g:Int->Int->Int} (h:mQ X f (rI C fun i j => .int (g i j))):a0W X f (rI3 C g):=by
 refine ⟨_,h,fun H x y vx vy G R Q rx ry gh h k=>?_⟩;cases rx with
 | int i =>
  cases ry with
  | int j=>exact ⟨i,j,rfl,rfl,h.1,fun _=>k _ H _ G (.refl H) (.int _) gh h.2⟩
  | _=>exact False.elim h
 | _=>exact False.elim h
theorem atX {f:Value->Value->Sem Value} {g:Int->Int->Int} (h:mQ X f (rI0 fun i j => .int (g i j))):a0W X f (azF g):=by
 refine ⟨_,h,fun H x y vx vy G R Q rx ry gh h k=>?_⟩;cases rx with
 | int i =>
  cases ry with
  | int j=>exact ⟨i,j,rfl,rfl,fun _=>k _ H _ G (.refl H) (.int _) gh h⟩
  | _=>exact False.elim h
 | _=>exact False.elim h
theorem abA {f:Value->Value->Sem Value} {g:Int->Int->Bool} (h:mQ X f (rI0 fun i j => .bl (g i j))):mV X f (an8 g):=by
 refine ⟨_,h,fun H x y vx vy G R Q rx ry gh h k=>?_⟩;cases rx with
 | int i =>
  cases ry with
  | int j=>exact ⟨i,j,rfl,rfl,k _ H _ G (.refl H) (.bl _) gh h⟩
  | _=>exact False.elim h
 | _=>exact False.elim h
noncomputable def rR:R3:=azF fun i j=>i - j
noncomputable def dF:R3:=rI3 asQ fun i j=>i / j
noncomputable def bZ:R3:=rI3 (fun _ j=>0 < j) fun i j=>i % j
noncomputable def zM:R3:=rI3 asR fun i j=>i ^ j.toNat
theorem azG:a0W X (binaryOp .Sub) rR:=atX asT
theorem atY:a0W X (binaryOp .FloorDiv) dF:=ahO amH
theorem azH:a0W X (binaryOp .Mod) bZ:=ahO asV
theorem azI:a0W X (binaryOp .Pow) zM:=ahO asW
noncomputable def yQ:R3:=an8 fun i j=>decide (i < j)
noncomputable def a07:R3:=an8 fun i j=>decide (j < i)
noncomputable def a8P:R3:=an8 fun i j=>decide (j<=i)
theorem aE8:mV X (compareOp .Lt) yQ:=abA ayN
theorem aE9:mV X (compareOp .Gt) a07:=abA ayP
theorem aEA:mV X (compareOp .GtE) a8P:=abA ayQ
noncomputable def aIF:R3:=fun x y G R=>match x,y with
 | .int i,.int j=>R (.bl (decide (i<=j))) G
 | .str i,.str j=>R (.bl (!decide (j.cps.toList < i.cps.toList))) G
 | _,_=>False
noncomputable def dR:R3:=fun x y G R=>match x,y with
 | .int i,.int j=>R (.int (i+j)) G
 | .str i,.str j=>i.length+j.length<=sizeLine/\R (.str (i++j)) G
 | .tup xs,.tup ys=>xs.length+ys.length<=sizeLine/\R (.tup (xs++ys)) G
 | .ref l,.ref m=>match G l,G m with
  | some (.lst xs),some (.lst ys)=>xs.length+ys.length<=sizeLine/\∀ p,G p=none->R (.ref p) (aG G p (.lst (xs++ys)))
  | _,_=>False
 | _,_=>False
theorem ahP:mQ X (binaryOp .Add) (fun x y H Q=>∃ a b ys,x = .ref a/\y = .ref b/\qQ X.K H a []/\qQ X.K H b ys/\Q (.ref b) H):=by
 intro pins s σ H x y v u Q I rx ry h;obtain ⟨a,b,ys,rfl,rfl,ha,hb,q⟩:=h;cases rx;cases ry;obtain ⟨its,r1,p1,_⟩:=I.tuple ha;obtain ⟨its2,r2,p2,_⟩:=I.tuple hb;cases r1;obtain ⟨⟨cls,dd,data,sl⟩,ho,hc,n,hd⟩:=id p1;obtain ⟨⟨cls2,dd2,data2,sl2⟩,ho2,hc2,n2,hd2⟩:=id p2;simp only at hc hd hc2 hd2;subst hc hd hc2 hd2
 exact concat_meets ⟨_,ho,rfl⟩ ⟨_,ho2,rfl⟩ noFill_tuple_add seq_tuple_add PySem.F.slot_tuple_add PySem.F.entry_tuple_add (PySem.F.args_tuple_add_2 _ _)
   (tuple_addW0 a b #[] its2.toArray n n2 dd dd2 sl sl2 (by simp)) ⟨ho,ho2,⟨.ref b,H,I,rfl,q⟩⟩
theorem azJ:a0W X (binaryOp .Add) dR:=by
 refine ⟨_,asS.or (aaV.or (amT.or (ahP.or atL))),fun H x y vx vy G R Q rx ry gh h k=>?_⟩;cases rx with
 | int i =>
  cases ry with
  | int j=>exact .inl ⟨i,j,rfl,rfl,fun _=>k _ H _ G (.refl H) (.int _) gh h⟩
  | _=>exact False.elim h
 | str i =>
  cases ry with
  | str j=>exact .inr (.inl ⟨i,j,rfl,rfl,h.1,fun _=>k _ H _ G (.refl H) (.str _) gh h.2⟩)
  | _=>exact False.elim h
 | @tup a xs ds ha ra ea =>
  cases ry with
  | @tup b ys es hb rb eb =>
   by_cases hn:ds=[]
   ·subst hn;cases ra;exact .inr (.inr (.inr (.inl ⟨a,b,ys,rfl,rfl,ha,hb,fun _=>k _ H _ G (.refl H) (.tup hb rb eb) gh h.2⟩)))
   ·refine .inr (.inr (.inl ⟨a,b,xs,ys,rfl,rfl,ha,hb,fun z=>hn (ra.wO.mp z),by rw [← ra.length,← rb.length];exact h.1,fun z _=>?_,fun _ p hp _=>?_⟩))
    ·subst z;cases rb;have h2:=h.2;rw [um] at h2;exact k _ H _ G (.refl H) (.tup ha ra ea) gh h2
    ·have sn:Same H (upd H p (.tup (xs++ys))):=bC hp;exact k _ _ _ G (.same sn) (.tup (qQ.of aH) ((ra.append rb).mono (.same sn)) (ahK aH)) (gh.same sn) h.2
  | _=>exact False.elim h
 | ref l =>
  cases ry with
  | ref m =>
   have h':(match G l,G m with
    | some (.lst xs),some (.lst ys)=>xs.length+ys.length<=sizeLine/\∀ p,G p=none->R (.ref p) (aG G p (.lst (xs++ys)))
    | _,_=>False):=h
   split at h'
   ·rename_i xs ys e1 e2;obtain ⟨xv,f1,r1⟩:=gh l _ e1;obtain ⟨yv,f2,r2⟩:=gh m _ e2;refine .inr (.inr (.inr (.inr ⟨l,m,xv,yv,rfl,rfl,f1,f2,by rw [← r1.length,← r2.length];exact h'.1,fun p hp kf=>?_⟩)));have sn:Same H (upd H p (.lst (xv++yv))):=bC hp;exact k _ _ _ _ (.same sn) (.ref p) (gh.put (u := .lst (xs++ys)) hp ⟨_,aH,(r1.append r2).mono (.same sn)⟩) (h'.2 p (lR gh hp kf))
   ·exact h'.elim
  | _=>exact False.elim h
 | _=>exact False.elim h
noncomputable def a3L:R3:=fun x y G R=>match x,y with
 | .non,.non=>R (.bl true) G
 | _,.non=>R (.bl false) G
 | .bl i,.bl j=>R (.bl (i == j)) G
 | .int _,.bl _=>R (.bl false) G
 | .str _,.bl _=>R (.bl false) G
 | .non,.bl _=>R (.bl false) G
 | .tup _,.bl _=>R (.bl false) G
 | .ref _,.bl _=>R (.bl false) G
 | _,_=>False
noncomputable def a0Y:R3:=fun x y G R=>a3L x y G fun d G'=>match d with
 | .bl k=>R (.bl (!k)) G'
 | _=>False
theorem isV (x:V) (v:Value) (k:Bool) (r:RelV x v):(v == .bool k)=decide (x = .bl k):=by
 cases x with
 | non=>cases r;rfl
 | bl b =>
  cases r;cases b <;> cases k <;> rfl
 | int _=>obtain ⟨t,rfl⟩:=r;rfl
 | str _=>obtain ⟨t,rfl⟩:=r;rfl
 | byt _=>obtain ⟨t,rfl⟩:=r;rfl
 | flt _=>obtain ⟨t,rfl⟩:=r;rfl
 | ref _=>cases r;rfl
 | ty _=>cases r;rfl
theorem a4M (x:V) (v:Value) (k:Bool) (r:RelV x v):plainIs v (.bool k)=true:=by
 cases x with
 | non=>cases r;rfl
 | bl b=>cases r;rfl
 | int _=>obtain ⟨t,rfl⟩:=r;rfl
 | str _=>obtain ⟨t,rfl⟩:=r;rfl
 | byt _=>obtain ⟨t,rfl⟩:=r;rfl
 | flt _=>obtain ⟨t,rfl⟩:=r;rfl
 | ref _=>cases r;rfl
 | ty _=>cases r;rfl
theorem an9:mQ X (compareOp .Is) (fun x y H Q=>∃ k,y = .bl k/\Q (.bl (decide (x = .bl k))) H):=by
 intro pins s σ H x y v u Q I rx ry h;obtain ⟨k,rfl,q⟩:=h;cases ry;exact wpAny_is_plain (a4M x v k rx) ⟨.bl _,H,I,by rw [isV x v k rx];rfl,q⟩
theorem afK:mQ X (compareOp .IsNot) (fun x y H Q=>∃ k,y = .bl k/\Q (.bl (!decide (x = .bl k))) H):=by
 intro pins s σ H x y v u Q I rx ry h;obtain ⟨k,rfl,q⟩:=h;cases ry;exact wpAny_isNot_plain (a4M x v k rx) ⟨.bl _,H,I,by rw [isV x v k rx];rfl,q⟩
theorem aEB:mV X (compareOp .Is) a3L:=by
 refine ⟨_,asZ.or an9,fun H x y vx vy G R Q rx ry gh h k=>?_⟩;cases ry with
 | non =>
  refine .inl ⟨rfl,?_⟩;cases rx with
  | non=>exact k _ H _ G (.refl H) (.bl _) gh h
  | _=>exact k _ H _ G (.refl H) (.bl _) gh h
 | bl j =>
  refine .inr ⟨j,rfl,?_⟩;cases rx with
  | bl i =>
   have e:decide (V.bl i=V.bl j)=(i == j):=by cases i <;> cases j <;> rfl
   rw [e];exact k _ H _ G (.refl H) (.bl _) gh h
  | ty n=>exact False.elim h
  | _=>exact k _ H _ G (.refl H) (.bl _) gh h
 | _=>cases rx <;> exact False.elim h
theorem atZ:mV X (compareOp .IsNot) a0Y:=by
 refine ⟨_,amK.or afK,fun H x y vx vy G R Q rx ry gh h k=>?_⟩;cases ry with
 | non =>
  refine .inl ⟨rfl,?_⟩;cases rx with
  | non=>exact k _ H _ G (.refl H) (.bl _) gh h
  | _=>exact k _ H _ G (.refl H) (.bl _) gh h
 | bl j =>
  refine .inr ⟨j,rfl,?_⟩;cases rx with
  | bl i =>
   have e:decide (V.bl i=V.bl j)=(i == j):=by cases i <;> cases j <;> rfl
   rw [e];exact k _ H _ G (.refl H) (.bl _) gh h
  | ty n=>exact False.elim h
  | _=>exact k _ H _ G (.refl H) (.bl _) gh h
 | _=>cases rx <;> exact False.elim h
noncomputable def aL (G:Gp) (a:Addr):Option (List D):=match G a with
 | some (.lst ds)=>some ds
 | some (.rol ds)=>some ds
 | _=>none
theorem bN {K:Fg} {H:Hp} {G:Gp} (g:HR K H G) {a:Addr} (e:aL G a=some ds):∃ xs,rF K H a xs/\bV K H ds xs:=by
 unfold aL at e;split at e
 ·rename_i ds' q;cases e;obtain ⟨xs,h1,h2⟩:=g a _ q;exact ⟨xs,rF.of h1,h2⟩
 ·rename_i ds' q;cases e;exact g a _ q
 ·cases e
noncomputable def cA:R3:=fun x y G R=>match x,y with
 | .tup xs,.int i=>match rJ xs i with
  | some d=>R d G
  | none=>False
 | .str z,.int i=>z.length<=sizeLine/\match rJ z.cps.toList i with
  | some c=>R (.str ⟨#[c]⟩) G
  | none=>False
 | .ref p,.int i=>match aL G p with
  | some xs=>(match rJ xs i with
   | some d=>R d G
   | none=>False)
  | none=>False
 | _,_=>False
theorem ahQ {K:Fg} {H:Hp} (r:bV K H ds xs) {i:Int} {d:D} (e:rJ ds i=some d):∃ v,rJ xs i=some v/\RD K H d v:=by
 unfold rJ at e ⊢;rw [← r.length];cases q:ixN ds.length i with
 | none=>rw [q] at e;cases e
 | some j =>
  rw [q] at e;exact r.get e
theorem aEC (ha:cM X a ta) (hb:cM X b tb) (hs:a5X b):cM X (.Subscript a b pos) (aC cA ta tb):=by
 refine PE.imp (ayV atE ha hb hs) fun _ _ _ h=>ab9 ?_ h;intro H x y vx vy G R Q rx ry gh h k;cases rx with
 | @tup p xs ds hp r =>
  cases ry with
  | int i =>
   have h':(match rJ ds i with
    | some d=>R d G
    | none=>False):=h
   split at h'
   ·rename_i d e;obtain ⟨v,e1,e2⟩:=ahQ r e;exact .inr (.inl ⟨p,xs,i,v,rfl,rfl,hp,e1,k v H d G (.refl H) e2 gh h'⟩)
   ·exact h'.elim
  | _=>exact False.elim h
 | str z =>
  cases ry with
  | int i =>
   have h':z.length<=sizeLine/\(match rJ z.cps.toList i with
    | some c=>R (.str ⟨#[c]⟩) G
    | none=>False):=h
   obtain ⟨hz,h'⟩:=h';split at h'
   ·rename_i d e;exact .inr (.inr ⟨z,i,d,rfl,rfl,hz,e,k _ H _ G (.refl H) (.str _) gh h'⟩)
   ·exact h'.elim
  | _=>exact False.elim h
 | ref p =>
  cases ry with
  | int i =>
   have h':(match aL G p with
    | some xs=>(match rJ xs i with
     | some d=>R d G
     | none=>False)
    | none=>False):=h
   split at h'
   ·rename_i ds e;obtain ⟨xs,hp,r⟩:=bN gh e;split at h'
    ·rename_i d e';obtain ⟨v,e1,e2⟩:=ahQ r e';exact .inl ⟨p,xs,i,v,rfl,rfl,hp,e1,k v H d G (.refl H) e2 gh h'⟩
    ·exact h'.elim
   ·exact h'.elim
  | _=>exact False.elim h
 | _=>exact False.elim h
abbrev TO3:=aN->Gp->(Option Int->Gp->Prop)->Prop
noncomputable def upO (K:Fg) (t:TO3):TO:=fun σ H Q=>∃ ρ G R,SR K H ρ σ/\HR K H G/\t ρ G R/\∀ i H' G',Ts H H'->HR K H' G'->R i G'->Q i H'
abbrev PO3 (X:Cx) (e:Option Expr) (t:TO3):Prop:=PO X e (upO X.K t)
theorem PO.imp {e:Option Expr} {t t':TO} (h:PO X e t) (k:∀ σ H Q,t' σ H Q->t σ H Q):PO X e t':=fun pins s σ H Q I q=>h pins s σ H Q I (k _ _ _ q)
noncomputable def rT:TO3:=fun _ G R=>R none G
noncomputable def a0Z (t:cF):TO3:=fun ρ G R=>t ρ G fun x G1=>match x with
 | .int i=>R (some i) G1
 | _=>False
theorem au0:PO3 X none rT:=PO.imp amR fun σ H Q h=>by
 obtain ⟨ρ,G,R,s,g,t,k⟩:=h;exact k none H G (.refl H) g t
theorem au1 (h:cM X e te):PO3 X (some e) (a0Z te):=PO.imp (amS h) fun σ H Q h=>by
 obtain ⟨ρ,G,R,s,g,t,k⟩:=h;refine ⟨ρ,G,_,s,g,t,fun v H1 x G1 t1 r g1 q=>?_⟩;cases r with
 | int i=>exact ⟨i,rfl,k _ H1 G1 t1 g1 q⟩
 | _=>exact False.elim q
noncomputable def cutD {α:Type} (xs:List α) (lo hi:Option Int):List α:=(xs.drop (HT.gR xs.length 0 lo)).take (HT.gR xs.length xs.length hi - HT.gR xs.length 0 lo)
end
end
variable {F:Ends}{to:cF}
section
section
variable {X:Cx} {st:Stmt} {rest:List Stmt} {t u:bH} {e:Expr} {te:cF} {pos:Pos}
noncomputable def bU:bH:=fun F ρ G=>F.nx ρ G
noncomputable def aM (t u:bH):bH:=fun F ρ G=>t { F with nx:=u F } ρ G
theorem azL:yP X [] bU:=PSs.imp am7 fun F σ H h=>by
 obtain ⟨ρ,G,E,s,g,q,d⟩:=h;exact d.nx ρ G σ H s g q
theorem au2 {K:Fg} {σ:St} {H:Hp} (h:upS K (aM t u) F σ H):asF (upS K t) (upS K u) F σ H:=by
 obtain ⟨ρ,G,E,s,g,q,d⟩:=h;exact ⟨ρ,G,_,s,g,q,⟨fun ρ' G' σ' H' s1 g1 h=>⟨ρ',G',E,s1,g1,h,d⟩,d.rt,d.bk,d.ct⟩⟩
theorem ahR (h1:PS3 X st t) (h2:yP X rest u):yP X (st :: rest) (aM t u):=PSs.imp (agS h1 h2) fun _ _ _ h=>au2 h
theorem azM (h1:PS3 X st t):yP X [st] t:=am8 h1
theorem au3:PS3 X (.Pass pos) bU:=PS.imp am9 fun F σ H h=>by
 obtain ⟨ρ,G,E,s,g,q,d⟩:=h;exact d.nx ρ G σ H s g q
noncomputable def jA (te:cF):bH:=fun F ρ G=>te ρ G fun _ G1=>F.nx ρ G1
theorem au4 (he:cM X e te) (hs:swapsWith e none pos.line X.env=pure false:=by rfl):PS3 X (.Expr e pos) (jA te):=PS.imp (amA he hs) fun F σ H h=>by
 obtain ⟨ρ,G,E,s,g,q,d⟩:=h;exact ⟨ρ,G,_,s,g,q,fun v H' x G' t1 r g1 h=>d.nx ρ G' σ H' (s.mono t1) g1 h⟩
noncomputable def cD (te:cF):bH:=fun F ρ G=>te ρ G F.rt
theorem azN (he:cM X e te):PS3 X (.Return (some e) pos) (cD te):=PS.imp (asG he) fun F σ H h=>by
 obtain ⟨ρ,G,E,s,g,q,d⟩:=h;exact ⟨ρ,G,_,s,g,q,fun v H' x G' t1 r g1 h=>d.rt x G' v H' r g1 h⟩
noncomputable def cP (c:vM) (t u:bH):bH:=fun F ρ G=>c ρ G fun b G1=>if b=true then t F ρ G1 else u F ρ G1
theorem aED {c:Expr} {a b:List Stmt} {tc:vM} (hc:PT3 X c tc) (ha:yP X a t) (hb:yP X b u):PS3 X (.If c a b pos) (cP tc t u):=PS.imp (ayC hc ha hb) fun F σ H h=>by
 obtain ⟨ρ,G,E,s,g,q,d⟩:=h;refine ⟨ρ,G,_,s,g,q,fun b H' G' t1 g1 h=>?_⟩;cases b with
 | true=>exact ⟨ρ,G',E,s.mono t1,g1,h,d⟩
 | false=>exact ⟨ρ,G',E,s.mono t1,g1,h,d⟩
noncomputable def bO (i:Nat) (te:cF):bH:=fun F ρ G=>te ρ G fun x G1=>F.nx (uP ρ i x) G1
theorem aqJ {i:Nat} {x:Str} {pos':Pos} (hN:X.N.Nodup) (hi:X.N[i]?=some x) (hx:Loc X.env.scope x) (he:cM X e te) (hs:swapsWith e (some (.Name x pos')) pos.line X.env=pure false:=by rfl) (hf:X.fn x=true∨X.env.scope.names.lookup x=some .local:=by first | exact .inl rfl | exact .inr rfl | assumption) :
  PS3 X (.Assign [.Name x pos'] e pos) (bO i te):=PS.imp (asJ hN hi hx he hs hf) fun F σ H h=>by
 obtain ⟨ρ,G,E,s,g,q,d⟩:=h;exact ⟨ρ,G,_,s,g,q,fun v H' x G' t1 r g1 h=>d.nx _ G' _ H' ((s.mono t1).set r i) g1 h⟩
noncomputable def vN (to ti te:cF):bH:=fun F ρ G=>te ρ G fun v G1=>to ρ G1 fun o G2=>ti ρ G2 fun i G3=>match o,i with
 | .ref p,.int k=>(match G3 p with
  | some (.lst xs)=>(match ixN xs.length k with
   | some j=>F.nx ρ (aG G3 p (.lst (xs.set j v)))
   | none=>False)
  | _=>False)
 | _,_=>False
theorem au5 {o i:Expr} {ti:cF} {pos':Pos} (ho:cM X o to) (hi:cM X i ti) (he:cM X e te)
  (ha:∀ v,assign (.Subscript o i pos') X.env v=(do
   let ov ← holding [v] (eval o X.env)
   let iv ← holding [v,ov] (eval i X.env)
   standAt pos'
   holding [v,ov,iv] (setItem ov iv v)
   release [v,ov,iv] []):=by intro _;rfl)
  (hs:swapsWithSole [.Subscript o i pos'] e pos.line X.env=pure false:=by rfl) (hw:swappedStores [.Subscript o i pos'] e X.env=pure none:=by rfl)
  (h1:(assignEach [.Subscript o i pos'] X.env).map (·.2)=[assign (.Subscript o i pos') X.env]:=by rfl):PS3 X (.Assign [.Subscript o i pos'] e pos) (vN to ti te) :=
 PS.imp (agW he (asI ho hi set_list ha) hs hw h1) fun F σ H h=>by
 obtain ⟨ρ,G,E,s,g,q,d⟩:=h;refine ⟨ρ,G,_,s,g,q,fun v H1 x G1 t1 rv g1 q1=>?_⟩;refine ⟨ρ,G1,_,s.mono t1,g1,q1,fun ov H2 o' G2 t2 ro g2 q2=>?_⟩;refine ⟨ρ,G2,_,s.mono (t1.trans t2),g2,q2,fun iv H3 i' G3 t3 ri g3 q3=>?_⟩;cases ro with
 | ref p =>
  cases ri with
  | int k =>
   have q3':(match G3 p with
    | some (.lst xs)=>(match ixN xs.length k with
     | some j=>E.nx ρ (aG G3 p (.lst (xs.set j x)))
     | none=>False)
    | _=>False):=q3
   split at q3'
   ·rename_i xs e1;split at q3'
    ·rename_i j e2;obtain ⟨ys,f1,r1⟩:=g3 p _ e1;refine ⟨p,ys,k,j,rfl,rfl,f1,by rw [← r1.length];exact e2,?_⟩;have tt:Ts H3 (upd H3 p (.lst (ys.set j v))) := .turn f1 (fun _ z=>nomatch z) (fun _ _ z=>nomatch z);exact d.nx ρ _ σ _ (s.mono (((t1.trans t2).trans t3).trans tt)) (g3.turn (u := .lst (xs.set j x)) tt ⟨_,aH,((r1.set (rv.mono (t2.trans t3)) j).mono tt)⟩) q3'
    ·exact q3'.elim
   ·exact q3'.elim
  | _=>exact False.elim q3
 | _=>cases ri <;> exact False.elim q3
end
section
variable {X:Cx} {body:List Stmt} {tb:bH} {e:Expr} {te:cF} {pos:Pos}
theorem ahS {K:Fg} {J:It} {g:TG} {tb:TS} {σ:St} {H:Hp} {n:Nat} (Pv:Nat->St->Hp->Prop) (h0:Pv 0 σ H)
  (stop:∀ σ H,Pv n σ H->J.stop n H) (go:∀ i σ H,i < n->Pv i σ H->J.go i H)
  (hs:∀ i x σ H H',i < n->Pv i σ H->J.yld i H x H'->g x σ H' fun σ2 H2=>tb { F with nx:=Pv (i+1),ct:=Pv (i+1),bk:=F.nx } σ2 H2) (hd:∀ σ H,Pv n σ H->F.nx σ H) :
  ∃ W:Nat->Nat->St->Hp->Prop,(∃ m,W 0 m σ H)/\∀ i m σ H,W i m σ H ->
   (J.stop i H/\F.nx σ H)∨(J.go i H/\∃ N:St->Hp->Prop,(∀ σ' H',N σ' H'->∃ m',m' < m/\W (i+1) m' σ' H')/\∀ x H',J.yld i H x H'->g x σ H' fun σ2 H2=>tb { F with nx:=N,ct:=N,bk:=F.nx } σ2 H2):=by
 refine ⟨fun i m σ H=>m=n - i/\i<=n/\Pv i σ H,⟨n,by simp,je _,h0⟩,?_⟩;rintro i m σ H ⟨rfl,hi,p⟩;by_cases hlt:i < n
 ·exact .inr ⟨go i σ H hlt p,Pv (i+1),fun σ' H' p'=>⟨n - (i+1),by omega,rfl,hlt,p'⟩,fun x H' y=>hs i x σ H H' hlt p y⟩
 ·have e:i=n:=by omega
  subst e;exact .inl ⟨stop σ H p,hd σ H p⟩
end
abbrev aV:=Addr->Gp->Prop
abbrev iT:=List D->Gp->dX->aV->Prop
def UpX (K:Fg) (EX:aV) (E:XK):Prop:=∀ C H' G',HR K H' G'->EX C G'->E (.ref C) none H'
noncomputable def cZ (K:Fg) (sp:iT):Sp:=fun vs H Q E=>∃ ds G R EX,bV K H ds vs/\HR K H G/\sp ds G R EX/\(∀ v H' d G',RD K H' d v->HR K H' G'->R d G'->Q v H')/\UpX K EX E
section
variable {X:Cx} {CX:CXT} {k:Nat} {f C:Addr} {fd:FuncData} {ps:List Str} {sp:iT} {E:XK} {EX:aV} {x:Str} {p pos:Pos} {e:Expr} {es:List Expr} {t:pK}
noncomputable def azO (n m:Nat) (tb:aV->bH):iT:=fun ds G R EX=>ds.length=m/\tb EX ⟨fun _ G'=>R .non G',R,fun _ _=>False,fun _ _=>False⟩ (pO n ds) G
end
end
variable {l:List Env}{C:Addr}{env:Env}{X:Cx}
section
noncomputable def jB (P:Program) (w:World):CXT:=fun outer H s E e s'=>∃ (x C:Addr) (H':Hp) (B:Heap),e = .ref x/\Fly B outer x (.ref C) s'.heap/\wI P w H' B /\
 (∀ b o,s.heap.get? b=some o->H b=none->b ∉ frs outer->B.get? b=some o)/\(∀ b o,s.heap.get? b=some o->b ∉ frs outer->∃ o',B.get? b=some o') /\
 Un (frs outer) [] H H' s.heap s'.heap/\s'.os=s.os/\AllBare s'.gens/\E (.ref C) none H'
theorem acX {b:Addr} (h:b∈frs l):∃ env∈l,env.frame=some b:=a0a.mp h
theorem a6B {b:Addr} (h:env∈l) (e:env.frame=some b):b∈frs l:=a0a.mpr ⟨env,h,e⟩
section
variable {qt:Bool} {P:Program} {w:World} {K:Fg} {mg:Str->Option Value} {base:Heap} {N:List Str} {qual:Str} {scope:Scope} {f:Addr} {cd:Value} {A:Around} {outer:List Env} {s₀:Shared} {H₀:Hp} {E:XK}
noncomputable abbrev cx1 (qt:Bool) (P:Program) (w:World) (K:Fg) (mg:Str->Option Value) (base:Heap) (N:List Str) (qual:Str) (scope:Scope) (f:Addr) (cd:Value) (A:Around) (outer:List Env) (s₀:Shared) (H₀:Hp) (E:XK):Cx:=j9 qt (jB P w) P w K mg base N qual scope f cd A outer s₀ H₀ E
theorem fB {σ:St} {H:Hp} {s:Shared} (I:Inv X pins σ H s) (hst:X.stack=X.env :: X.outer) (hf:X.env.frame=some X.env.locals) {b:Addr} {o:Obj} (e:X.s₀.heap.get? b=some o) (n:b ∉ frs X.outer):b ∉ frs X.stack:=fun hb=>by
 obtain ⟨env,he,hfr⟩:=acX hb;rw [hst] at he;rcases jc.mp he with rfl | he
 ·have z:X.env.locals=b:=ig.inj (hf.symm.trans hfr);have h1:=I.ok.above;have h2:=cg e;rw [z] at h1;exact absurd (cu h2 h1) (jq _)
 ·exact n (a6B he hfr)
theorem anB {σ:St} {H:Hp} {s:Shared} {e:Addr} (I:Inv (cx1 qt P w K mg base N qual scope f cd A outer s₀ H₀ E) pins σ H s) (hm:a0z s.heap h' e (.ref C) us) (q:E (.ref C) none H) :
  (cx1 qt P w K mg base N qual scope f cd A outer s₀ H₀ E).xe (.ref e) { s with heap:=h' }:=by
 have hst:(cx1 qt P w K mg base N qual scope f cd A outer s₀ H₀ E).stack=(cx1 qt P w K mg base N qual scope f cd A outer s₀ H₀ E).env :: outer:=rfl;have hin:∀ env∈(cx1 qt P w K mg base N qual scope f cd A outer s₀ H₀ E).stack,∀ b,env.frame=some b->b∈frs (cx1 qt P w K mg base N qual scope f cd A outer s₀ H₀ E).stack:=fun env he b hb=>a6B he hb;have hB:∀ b o,(a0p s.heap (frs (cx1 qt P w K mg base N qual scope f cd A outer s₀ H₀ E).stack)).get? b=some o->s.heap.get? b=some o:=fun b o e=>PySem.W.of_hideAll _ e;have toB:∀ b o,s.heap.get? b=some o->b ∉ frs (cx1 qt P w K mg base N qual scope f cd A outer s₀ H₀ E).stack->(a0p s.heap (frs (cx1 qt P w K mg base N qual scope f cd A outer s₀ H₀ E).stack)).get? b=some o:=fun b o e n=>PySem.W.hideAll_get _ e n;have fr:=PySem.W.funFrames_hide I.stack hin;refine aaQ (B:=a0p s.heap (frs (cx1 qt P w K mg base N qual scope f cd A outer s₀ H₀ E).stack)) (h0:=s.heap) I.ok.frames rfl hB fr hm fun h2 k1 k4=>?_;have up:∀ b o,s.heap.get? b=some o->(∀ vs,o.data ≠ .fields vs)->∃ sl,h2.get? b=some { o with slots:=sl }:=fun b o e nd=>k4 b o (hm.keeps b o e) nd
 have hfd:∀ b∈frs outer,∀ o,s.heap.get? b=some o->∀ vs,o.data ≠ .fields vs:=fun b hb o e=>by
  obtain ⟨_,o',ho',hd⟩:=I.nU.mem hb;rw [e] at ho';cases ho';exact hd
 refine ⟨e,C,H,_,rfl,k1,?_,fun b o eb nb hb=>?_,fun b o eb hb=>?_,⟨fun b o eb nb hb _=>?_,fun b o eb nb hb _=>?_,fun b o eb nb hx=>I.base.free b o eb nb hx,fun b o eb hx=>?_,I.base.tups,I.base.eZ,I.base.rD⟩,I.os,I.bare,q⟩
 ·intro b o hb;refine (I.hok b o hb).stay (fun c u hc eu=>toB c u eu fun hz=>?_) (fun _ z=>z) fun _ _ z=>z;have n:=I.a5S c hz;rcases hc with rfl | hc
  ·rw [hb] at n;cases n
  ·rw [hc] at n;cases n
 ·exact toB b o (I.base.keep b o eb nb hb (by simp [j9])) (fB I hst rfl eb hb)
 ·obtain ⟨o',e'⟩:=I.base.there b o eb (by simp [j9]);exact ⟨o',toB b o' e' (fB I hst rfl eb hb)⟩
 ·exact k1.stays b o (toB b o (I.base.keep b o eb nb hb (by simp [j9])) (fB I hst rfl eb hb))
 ·obtain ⟨sl,e1⟩:=I.base.slot b o eb nb hb (by simp [j9]);obtain ⟨sl2,e2⟩:=up b _ e1 (hfd b hb _ e1);exact ⟨sl2,e2⟩
 ·obtain ⟨o',e'⟩:=I.base.there b o eb (by simp [j9]);by_cases hb:b∈frs outer
  ·obtain ⟨sl,e1⟩:=up b o' e' (hfd b hb o' e');exact ⟨_,e1⟩
  ·exact ⟨o',k1.stays b o' (toB b o' e' (fB I hst rfl eb hb))⟩
theorem anC {E':XK} (hE:∀ C H',E' C none H'->E C none H') {σ:St} {H:Hp} {s s':Shared} {e:Value} (I:Inv (cx1 qt P w K mg base N qual scope f cd A outer s₀ H₀ E) pins σ H s)
  (c:jB P w (cx1 qt P w K mg base N qual scope f cd A outer s₀ H₀ E).stack H s E' e s'):(cx1 qt P w K mg base N qual scope f cd A outer s₀ H₀ E).xe e s':=by
 obtain ⟨x,C,H',B,rfl,fl,hok,cov,azP,un,os,bare,q⟩:=c;have hst:(cx1 qt P w K mg base N qual scope f cd A outer s₀ H₀ E).stack=(cx1 qt P w K mg base N qual scope f cd A outer s₀ H₀ E).env :: outer:=rfl;refine agM (B:=B) I.ok.frames rfl fl fun h2 k1 k4=>?_
 have hfs:∀ b∈frs outer,b∈frs (cx1 qt P w K mg base N qual scope f cd A outer s₀ H₀ E).stack:=fun b hb=>by
  obtain ⟨env,he,hf⟩:=acX hb;exact a6B (iu _ he) hf
 have hfd:∀ b∈frs outer,∀ o,s'.heap.get? b=some o->∀ vs,o.data ≠ .fields vs:=fun b hb o e=>by
  obtain ⟨_,o',ho',hd⟩:=fl.aD7.mem (hfs b hb);rw [e] at ho';cases ho';exact hd
 refine ⟨x,C,H',B,rfl,k1,hok,fun b o eb nb hb=>?_,fun b o eb hb=>?_,⟨fun b o eb nb hb _=>?_,fun b o eb nb hb _=>?_,fun b o eb nb hx=>?_,fun b o eb hx=>?_,fun b xs z=>un.tups b xs (I.base.tups b xs z),fun b o u z=>un.eZ b o u (I.base.eZ b o u z),fun b ps z=>?_⟩,os.trans I.os,bare,hE _ _ q⟩
 ·exact cov b o (I.base.keep b o eb nb hb (by simp [j9])) (I.base.free b o eb nb (by simp [j9])) (fB I hst rfl eb hb)
 ·obtain ⟨o',e'⟩:=I.base.there b o eb (by simp [j9]);exact azP b o' e' (fB I hst rfl eb hb)
 ·exact k1.stays b o (cov b o (I.base.keep b o eb nb hb (by simp [j9])) (I.base.free b o eb nb (by simp [j9])) (fB I hst rfl eb hb))
 ·obtain ⟨sl,e1⟩:=I.base.slot b o eb nb hb (by simp [j9]);obtain ⟨sl2,e2⟩:=un.slot b _ e1 (I.base.free b o eb nb (by simp [j9])) (hfs b hb) (by simp);obtain ⟨sl3,e3⟩:=k4 b _ e2 (hfd b hb _ e2);exact ⟨sl3,e3⟩
 ·obtain ⟨o',e'⟩:=I.base.there b o eb (by simp [j9]);exact un.free b o' e' (I.base.free b o eb nb (by simp [j9])) (by simp)
 ·obtain ⟨o',e'⟩:=I.base.there b o eb (by simp [j9]);by_cases hb:b∈frs outer
  ·obtain ⟨o2,e2⟩:=un.there b o' e' (by simp);obtain ⟨sl,e3⟩:=k4 b o2 e2 (hfd b hb o2 e2);exact ⟨_,e3⟩
  ·obtain ⟨o2,e2⟩:=azP b o' e' (fB I hst rfl eb hb);exact ⟨o2,k1.stays b o2 e2⟩
 ·obtain ⟨m1,e1⟩:=I.base.rD b ps z;obtain ⟨m2,e2⟩:=un.rD b _ e1;exact ⟨m1++m2,by rw [e2,Array.append_assoc]⟩
end
noncomputable def a1A (K:Fg) (EX:aV):XK:=fun C _ H'=>∃ c G',C = .ref c/\HR K H' G'/\EX c G'
structure Cat (X:Cx) (EX:aN->aV):Prop where
 a8Q:∀ pins σ H s ρ e s',Inv X pins σ H s->SR X.K H ρ σ->jB X.prog X.w X.stack H s (a1A X.K (EX ρ)) e s'->X.xe e s'
structure Thr (X:Cx) (EX:aN->aV):Prop where
 made:∀ pins σ H s ρ C e us h',Inv X pins σ H s->SR X.K H ρ σ->a0z s.heap h' e (.ref C) us->a1A X.K (EX ρ) (.ref C) none H->X.xe (.ref e) { s with heap:=h' }
section
variable {qt:Bool} {P:Program} {w:World} {K:Fg} {mg:Str->Option Value} {base:Heap} {N:List Str} {qual:Str} {scope:Scope} {f:Addr} {cd:Value} {A:Around} {outer:List Env} {s₀:Shared} {H₀:Hp} {E:XK} {EX:aV}
theorem a8R (h:UpX K EX E) {C:Value} (q:a1A K EX C none H'):E C none H':=by
 obtain ⟨c,G',rfl,g,q⟩:=q;exact h c H' G' g q
theorem azQ (h:UpX K EX E):Cat (cx1 qt P w K mg base N qual scope f cd A outer s₀ H₀ E) (fun _=>EX) :=
 ⟨fun pins σ H s ρ e s' I _ c=>anC (E':=a1A K EX) (fun C H' q=>a8R h q) I c⟩
theorem azR (h:UpX K EX E):Thr (cx1 qt P w K mg base N qual scope f cd A outer s₀ H₀ E) (fun _=>EX) :=
 ⟨fun pins σ H s ρ C e us h' I _ hm q=>anB I hm (a8R h q)⟩
theorem own1:PassesOwn (model P w) (cx1 qt P w K mg base N qual scope f cd A outer s₀ H₀ E).A (cx1 qt P w K mg base N qual scope f cd A outer s₀ H₀ E).env (cx1 qt P w K mg base N qual scope f cd A outer s₀ H₀ E).xe:=PassesOwn.leaving
end
section
variable {X:Cx} {k:Nat} {f C:Addr} {fd:FuncData} {ps:List Str} {sp:iT} {EX:aN->aV} {x:Str} {p pos:Pos} {e:Expr} {es:List Expr} {t:pK}
noncomputable def aX (sp:iT) (EX:aN->aV) (t:pK):cF:=fun ρ G R=>t ρ G fun ds G1=>sp ds G1 R (EX ρ)
theorem acY {σ:St} {H:Hp} {s:Shared} {Q':VK} {E:XK} (F:cI qt X.prog X.w X.K X.mg X.base (jB X.prog X.w) k f fd ps (cZ X.K sp)) (hr:cR qt k X.A) (hb:Binds X.K fd ps [])
  (hx:∀ e s',jB X.prog X.w X.stack H s E e s'->X.xe e s')
  (I:Inv X pins σ H s) (r:Vals vs us) (h:cZ X.K sp vs H Q E) (hQ:∀ v H',Ts H H'->Q v H'->Q' v H'):wpAny (model X.prog X.w) X.A (call (.ref f) us) (EP X pins σ Q') X.xe s:=by
 have hl:(us++[]).length=ps.length:=by rw [um,← r.length];exact F.len _ _ _ _ h
 refine wpAny_call (codeAny_mono (F.run X.A X.stack s H ⟨us,[]⟩ (us++[]) vs Q E hr I.env0 (hb s us I.kIn hl) (by rw [um];exact r) h) fun r s' hq=>?_);cases r with
 | error e=>exact hx e s' hq
 | ok fl =>
  cases fl with
  | ret u =>
   obtain ⟨v,H',os,bare,un,hok,r,q⟩:=hq;exact ⟨v,H',I.call' (ch:=[]) os un hok bare (fun b z=>absurd z (by simp)),r,hQ v H' ⟨un.tups,un.eZ⟩ q⟩
  | next=>exact False.elim hq
  | brk=>exact False.elim hq
  | cont=>exact False.elim hq
theorem anD (F:cI qt X.prog X.w X.K X.mg X.base (jB X.prog X.w) k f fd ps (cZ X.K sp)) (hr:cR qt k X.A) (hg:Gl X x) (hm:X.mg x=some (.ref f)) (hk:mz X.K (.ref f)=true) (hb:Binds X.K fd ps []) (hx:Cat X EX)
  (ha:PA3 X (e :: es) t) (hdb:(x == ("__debug__" : Str))=false:=by decide) (he:starEach (e :: es) X.env=(false,eval e X.env) :: starEach es X.env:=by rfl) (hpl:(backTo pos (starEach es X.env)).any (·.1)=false:=by rfl) :
  cM X (.Call (.Name x p) (e :: es) [] pos) (aX sp EX t):=by
 intro pins s σ H Q I h _tk;obtain ⟨ρ,G,R,sr,g,q,kk⟩:=h;refine wpAny_Call_Name_kw (mY I hg hm ?_ hdb);refine PySem.W.callWith_K (h₀:=X.base) I.ok.mod.kin hk (cL (ha pos pins s σ H (fun vs H1=>Ts H H1/\∃ ds G1,bV X.K H1 ds vs/\HR X.K H1 G1/\sp ds G1 R (EX ρ)) I ⟨ρ,G,_,sr,g,q,fun vs H1 ds G1 t1 r1 g1 q1=>⟨t1,ds,G1,r1,g1,q1⟩⟩) fun us s1 ⟨vs,H1,I1,r,t1,ds,G1,r1,g1,q1⟩=>⟨I1.kIn,?_⟩) he hpl;refine acY (E:=a1A X.K (EX ρ)) F hr hb (fun e s' c=>hx.a8Q pins σ H1 s1 ρ e s' I1 (sr.mono t1) c) I1 r (Q:=fun v H'=>∃ d G',RD X.K H' d v/\HR X.K H' G'/\R d G') ⟨ds,G1,R,EX ρ,r1,g1,q1,fun v H' d G' r2 g2 q2=>⟨d,G',r2,g2,q2⟩,fun C H' G' g' q'=>⟨C,G',rfl,g',q'⟩⟩ fun v H' t2 ⟨d,G',r2,g2,q2⟩=>kk v H' d G' (t1.trans t2) r2 g2 q2
theorem au6 {w:World} {K:Fg} {x:Str} {st:Stmt} {f:Addr} {N ps:List Str} {k:Nat} {tb:aV->bH} (F:wK K x qual st f fd) (S:bM N ps (aU st))
  (hbody:∀ (cdv:Value) (A:Around) (outer:List Env) (s:Shared) (H:Hp) (E:XK) (EX:aV),cR qt k (A.deeper (envOfC qual (aU st) s.heap.objs.size f cdv))->UpX K EX E ->
   yP (cx1 qt P w K mg base N qual (aU st) f cdv A outer s H E) (cO st) (tb EX)):cI qt P w K mg base (jB P w) (k+1) f fd ps (cZ K (azO N.length ps.length tb)):=by
 obtain ⟨oc,od,dV,kV,doc,pm,an,cdv,ct,osl,rfl,lk,hcd⟩:=F.ex;have hpl:ps.length<=N.length:=by have:=congrArg List.length S.pre;rw [qx] at this;omega
 refine ah5 lk hcd S (fun vs H Q E h=>?_) fun A outer s H vs Q E hr hsp=>?_
 ·obtain ⟨ds,G,R,EX,r,g,⟨hl,q⟩,_⟩:=h;rw [← r.length,hl]
 ·obtain ⟨ds,G,R,EX,r,g,⟨hl,q⟩,kk,hE⟩:=hsp;refine ⟨_,hbody cdv A outer s H E EX hr hE,pO N.length ds,G,_,?_,g,q,⟨fun ρ G' σ' H' s1 g1 q1=>kk .non H' .non G' .non g1 q1,fun d G' v H' r1 g1 q1=>kk v H' d G' r1 g1 q1,fun _ _ _ _ _ _ z=>z.elim,fun _ _ _ _ _ _ z=>z.elim⟩⟩;unfold pO start;rw [r.length];exact SR.entry r
end
section
variable {X:Cx} {C:Addr} {bmB bmN:List Value} {B Bn newId nid initId inN:String} {EX:aN->aV} {x:Str} {np cpos pos:Pos} {e:Expr} {es:List Expr} {t:pK}
theorem a0E {K:Fg} (XK:K.In h) (q:uq K C bmB newId=true):∃ bm N nm q bs hdct sn sub ab col dd k0 k1 k2 k3 k5 mN,h.get? C=some (excClassObj nm q C N bs bm hdct sn sub ab col dd k0 k1 k2 k3 k5 newId)/\h.Ns N mN/\mN "__init__" = none/\OwnTail h bmB bm:=by
 unfold uq at q;split at q
 ·rename_i dd cd sl ho;split at q
  ·rename_i C' bm k0 k1 k2 k3 n k5 hm hs;simp only [ak,beq_iff_eq,dg] at q;obtain ⟨⟨⟨⟨⟨rfl,rfl⟩,hdel⟩,ht⟩,hok⟩,hni⟩:=q;obtain ⟨nm,bs,mro,ns,qn,hd,sn,sub,ab,col,del⟩:=cd;dsimp only at hm hdel hok hni;subst hm hdel
   have hsl:sl=#[k0,k1,k2,k3,some (.builtin n),k5]:=by
    obtain ⟨l⟩:=sl;simp only at hs;rw [hs]
   subst hsl;exact ⟨bm,ns,nm,qn,bs,hd,sn,sub,ab,col,dd,k0,k1,k2,k3,k5,_,XK _ _ ho,.of_isNs (PySem.W.isNs_of_in XK hok),PySem.W.nsMap_none_of_in XK hok hni,PySem.W.tail_of_in XK ht⟩
  ·cases q
 ·cases q
noncomputable def a6C (EX:aN->aV) (C:Addr) (t:pK):bH:=fun _ ρ G=>t ρ G fun ds G1=>ds.length<=sizeLine/\EX ρ C G1
theorem anE (hc:X.calm=true) (Fn:ExcBaseFacts Bn newId inN bmN) (hBn:bmB.contains (.type Bn)=true) (FB:ExcBaseFacts B nid initId bmB) (hg:Gl X x) (hm:X.mg x=some (.ref C)) (hq:uq X.K C bmB newId=true) (hT:Thr X EX)
  (ha:PA3 X (e :: es) t) (hd:(x == ("__debug__" : Str))=false:=by decide)
  (he:starEach (e :: es) X.env=(false,eval e X.env) :: starEach es X.env:=by rfl) (hplain:(backTo cpos (starEach es X.env)).any (·.1)=false:=by rfl) :
  PS3 X (.Raise (some (.Call (.Name x np) (e :: es) [] cpos)) none pos) (a6C EX C t):=by
 intro pins s σ H F I h _tk;obtain ⟨ρ,G,E3,sr,g,q,dd⟩:=h;obtain ⟨tl,N,nm,q',bs,hdct,sn,sub,ab,col,dd',k0,k1,k2,k3,k5,mN,hC,hN,hni,T⟩:=a0E I.mod.kin hq
 refine wpAny_Raise_call_subU (C:=C) (nm:=nm) (q:=q') (N:=N) (bs:=bs) (bm:=tl) (hdct:=hdct) (sn:=sn) (sub:=sub) (ab:=ab) (col:=col) (dd:=dd') (k0:=k0) (k1:=k1) (k2:=k2) (k3:=k3) (k5:=k5)
  Fn hBn FB (mN:=mN) (T.hasType FB.hasBase) (I.ok.hd hc) (by rw [he];show (false || (backTo cpos (starEach es X.env)).any (·.1))=false;rw [hplain];rfl) hni (mY I hg hm ⟨rfl,?_⟩ hd)
 have hA:=ha cpos pins s σ H (fun vs H1=>Ts H H1/\∃ ds G1,bV X.K H1 ds vs/\HR X.K H1 G1/\ds.length<=sizeLine/\EX ρ C G1) I ⟨ρ,G,_,sr,g,q,fun vs H1 ds G1 t1 r1 g1 q1=>⟨t1,ds,G1,r1,g1,q1.1,q1.2⟩⟩;rw [he] at hA ⊢;refine Calls.evalArgs_plain (cL hA fun us s2 ⟨vs,H2,I2,r2,t1,ds,G1,r1,g1,hl,q1⟩=>?_);exact ⟨rfl,by rw [← r2.length,← r1.length];exact hl,I2.bk _ _ hC,hN.keeps I2.bk,T.keeps I2.bk,fun h' e' hm'=>hT.made pins σ H2 s2 ρ C e' us h' I2 (sr.mono t1) hm' ⟨C,G1,rfl,g1,q1⟩⟩
end
end
section
open PySem.W
theorem wU {env:Env}:∀ (l:List (Str×NameKind)) (acc:List (Str×Addr)),l.filter (fun p=>p.2 == .free)=[]->(forIn l acc fun (p:Str×NameKind) (cs:List (Str×Addr))=>(if p.2 == .free then do let c ← cellOf env p.1;pure (ForInStep.yield ((p.1,c) :: cs)) else pure (ForInStep.yield cs):Sem (ForInStep (List (Str×Addr)))))=pure acc
 | [],acc,_=>rfl
 | p :: r,acc,h=>by
  rw [vq] at h;split at h
  ·cases h
  ·rename_i q;rw [xu,if_neg q,pure_bind];exact wU r acc h
theorem zN {env:Env} {x:Str} {cc:Addr} (hc:env.cells.lookup x=some cc):∀ (l:List (Str×NameKind)) (acc:List (Str×Addr)),l.filter (fun p=>p.2 == .free)=[(x,.free)]->(forIn l acc fun (p:Str×NameKind) (cs:List (Str×Addr))=>(if p.2 == .free then do let c ← cellOf env p.1;pure (ForInStep.yield ((p.1,c) :: cs)) else pure (ForInStep.yield cs):Sem (ForInStep (List (Str×Addr)))))=pure ((x,cc) :: acc)
 | [],acc,h=>by cases h
 | p :: r,acc,h=>by
  rw [vq] at h;split at h
  ·rename_i q;have ⟨e1,e2⟩:=List.cons.inj h;subst e1;rw [xu,if_pos q];unfold cellOf;simp only [hc,pure_bind];exact wU r _ e2
  ·rename_i q;rw [xu,if_neg q,pure_bind];exact zN hc r acc h
theorem a1B {x:Str} (h:scope.names.filter (fun p=>p.2 == .free)=[(x,.free)]) (hc:env.cells.lookup x=some cc):closureFor scope env=pure [(x,cc)]:=by
 unfold closureFor;have:=zN hc scope.names [] h;simp only [bind_pure];refine Eq.trans ?_ this;congr 1
theorem anF {a b:List Stmt} {t u:TS} (h1:PSs X a t) (h2:PSs X b u):PSs X (a++b) (asF t u):=by
 intro pins s σ H D I h _tk;rw [a4K];refine aj (cL (h1 pins s σ H { D with nx:=u D } I h) fun f s1 q=>?_);intro ay6;cases f with
 | next =>
  obtain ⟨σ',H',I',q⟩:=q;exact h2 pins s1 σ' H' D I' q
 | ret v=>exact bh q
 | brk=>exact bh q
 | cont=>exact bh q
structure Tq (H H':Hp):Prop where
 tups:∀ a xs,H a=some (.tup xs)->H' a=some (.tup xs)
 au7:∀ a o xs,H a=some (.oJ o (.tup xs))->H' a=some (.oJ o (.tup xs))
theorem Tq.sqT {K:Fg} {H:Hp} (t:Tq H H') {a:Addr} (h:qQ K H a xs):qQ K H' a xs:=by
 rcases h with (h | ⟨o,h⟩) | h
 ·exact .inl (.inl (t.tups _ _ h))
 ·exact .inl (.inr ⟨o,t.au7 _ _ _ h⟩)
 ·exact .inr h
mutual
theorem RD.acZ {K:Fg} {H H':Hp} (t:Tq H H'):∀ {d:D} {v:V},RD K H d v->RD K H' d v
 | _,_,.non => .non
 | _,_,.bl b => .bl b
 | _,_,.int i => .int i
 | _,_,.str x => .str x
 | _,_,.ty n => .ty n
 | _,_,.ref a => .ref a
 | _,_,.tup h r e => .tup (t.sqT h) (bV.acZ t r) trivial
theorem bV.acZ {K:Fg} {H H':Hp} (t:Tq H H'):∀ {ds:List D} {vs:List V},bV K H ds vs->bV K H' ds vs
 | _,_,.nil => .nil
 | _,_,.cons h r => .cons (RD.acZ t h) (bV.acZ t r)
end
noncomputable def azS:GO->Bool
 | .clo _ _=>true
 | _=>false
noncomputable def offC (G:Gp):Gp:=fun a=>match G a with
 | some o=>if azS o then none else some o
 | none=>none
section
variable {K:Fg} {H:Hp} {cc:Addr} {ob:Obj} {u:Value}
end
noncomputable def a8S (qt:Bool) (P:Program) (w:World) (K:Fg) (mg:Str->Option Value) (base:Heap) (k:Nat) (c:ahM) (sp:iT):Prop :=
 ∀ (A:Around) (outer:List Env) (s:Shared) (H:Hp) (us:List Value) (vs:List V) (ds:List D) (d:D) (G:Gp) (R:dX) (E:XK) (f:Addr),cR qt k A->vK P w K mg base A outer s H->A.handled=none->HR K H G->G f=some (.clo c d)->Vals vs us->bV K H ds vs->sp (d :: ds) (offC G) R (fun _ _=>False) ->
  codeAny (model P w) A (.call (.ref f) ⟨us,[]⟩) (CR (jB P w) outer P w H s (fun v H'=>∃ d' G2,RD K H' d' v/\HR K H' G2/\R d' G2) E) s
section
variable {X:Cx} {k i:Nat} {c:ahM} {sp:iT} {y:Str} {p pos:Pos} {e:Expr} {es:List Expr} {t:pK}
end
end
section
noncomputable def pP:aN->Nat->aN
 | [],_=>[]
 | _ :: r,0=>none :: r
 | x :: r,n+1=>x :: pP r n
noncomputable def vO:St->Nat->St
 | [],_=>[]
 | _ :: r,0=>none :: r
 | x :: r,n+1=>x :: vO r n
theorem SR.clr {K:Fg} {H:Hp}:∀ {ρ:aN} {σ:St} (i:Nat),SR K H ρ σ->SR K H (pP ρ i) (vO σ i)
 | _,_,_,.nil => .nil
 | _,_,0,.none r => .none r
 | _,_,0,.some _ r => .none r
 | _,_,i+1,.none r => .none (SR.clr i r)
 | _,_,i+1,.some h r => .some h (SR.clr i r)
theorem a1C:∀ (σ:St) (i:Nat),(vO σ i).length=σ.length
 | [],_=>rfl
 | _ :: _,0=>rfl
 | _ :: r,i+1=>congrArg (·+1) (a1C r i)
theorem a1D:∀ (σ:St) (i j:Nat) (v:V),(vO σ i)[j]?=some (some v)->j≠i/\σ[j]?=some (some v)
 | [],_,_,_,h=>by simp [vO] at h
 | _ :: _,0,0,_,h=>by simp [vO] at h
 | _ :: _,0,j+1,_,h=>⟨by omega,by simpa [vO] using h⟩
 | _ :: _,i+1,0,_,h=>⟨by omega,by simpa [vO] using h⟩
 | _ :: r,i+1,j+1,v,h=>by
  obtain ⟨a,b⟩:=a1D r i j v (by simpa [vO] using h);exact ⟨by omega,by simpa using b⟩
section
variable {X:Cx}
noncomputable abbrev aEE (X:Cx) (x:Addr):Cx:={ X with A:=X.A.mark (some (.ref x)),calm:=false,xe:=fun _ _=>False,need:=false }
theorem ahT {w:World} {H:Hp} {B:Heap} {x:Addr} (hok:wI P w H B) (n:B.get? x=none):H x=none:=by
 cases e0:H x with
 | none=>rfl
 | some o =>
  have lt:=(hok x o e0)
  obtain ⟨o',ho'⟩:∃ o',B.get? x=some o':=by
   cases o with
   | lst xs=>obtain ⟨_,_,_,_,e⟩:=lt;exact ⟨_,e⟩
   | tup xs=>obtain ⟨_,_,_,o,e,_⟩:=lt;exact ⟨_,e⟩
   | dK kvs=>obtain ⟨_,_,_,_,o,_,_,e,_⟩:=lt;exact ⟨_,e⟩
   | dT kvs=>obtain ⟨_,_,_,_,o,_,_,e,_⟩:=lt;exact ⟨_,e⟩
   | set S n=>obtain ⟨o,_,_,_,e,_⟩:=lt;exact ⟨_,e⟩
   | ins C dx fs=>obtain ⟨_,_,_,e,_⟩:=lt;exact ⟨_,e⟩
   | own y=>obtain ⟨_,e⟩:=lt;exact ⟨_,e⟩
   | xd fs=>obtain ⟨_,⟨_,_,_,e,_⟩,_⟩:=lt;exact ⟨_,e⟩
   | rng lo hi=>obtain ⟨_,_,_,e⟩:=lt;exact ⟨_,e⟩
   | oJ ob u=>obtain ⟨e,_⟩:=lt;exact ⟨_,e⟩
   | vH ps=>exact ⟨_,(show B.get? x=some _ from lt)⟩
   | met f y=>exact ⟨_,(show B.get? x=some _ from lt)⟩
   | ext φ=>obtain ⟨_,⟨_,e⟩,_⟩:=lt;exact ⟨_,e⟩
  rw [n] at ho';cases ho'
end
end
variable {vx vy:V}
section
section
variable {X:Cx} {a b c:Expr} {ta tb tc:cF} {pos:Pos}
noncomputable def a4N (t:cF):cF:=fun ρ G R=>t ρ G fun x G1=>match x with
 | .int i=>R (.int (-i)) G1
 | _=>False
theorem azT (ha:cM X a ta):cM X (.UnaryOp .USub a pos) (a4N ta):=PE.imp (ayM asY ha) fun σ H Q h=>by
 obtain ⟨ρ,G,R,s,g,t,k⟩:=h;refine ⟨ρ,G,_,s,g,t,fun v H1 x G1 t1 r g1 q=>?_⟩;cases r with
 | int i=>exact ⟨i,rfl,k _ H1 _ G1 t1 (.int _) g1 q⟩
 | _=>exact False.elim q
noncomputable def aP:Nat->D->Bool
 | 0,.tup _=>false
 | n+1,.tup xs=>xs.all (aP n)
 | _,.ref _=>false
 | _,.ty _=>false
 | _,_=>true
mutual
noncomputable def eqP:D->D->Bool
 | .non,.non=>true
 | .bl a,.bl b=>a == b
 | .bl a,.int b=>(if a then 1 else 0) == b
 | .int a,.bl b=>a == (if b then 1 else 0)
 | .int a,.int b=>a == b
 | .str a,.str b=>a == b
 | .tup xs,.tup ys=>jU xs ys
 | _,_=>false
noncomputable def jU:List D->List D->Bool
 | [],[]=>true
 | x :: xs,y :: ys=>eqP x y&&jU xs ys
 | _,_=>false
end
noncomputable def pQ (xs ys:List D) (j:Nat):Bool:=match xs[j]?,ys[j]? with
 | some a,some b=>eqP a b
 | _,_=>false
theorem rW (n:Nat) (e:Nat->Bool):(dh (n+1)).all e=(e 0&&(dh n).all fun j=>e (j+1)):=by
 rw [List.range_succ_eq_map,qz,List.all_map];rfl
theorem gY:∀ (xs ys:List D),jU xs ys=((dh (min xs.length ys.length)).all (pQ xs ys)&&xs.length == ys.length)
 | [],[]=>rfl
 | [],y :: ys=>by simp [jU]
 | x :: xs,[]=>by simp [jU]
 | x :: xs,y :: ys=>by
  have ih:=gY xs ys;have e:min (x :: xs).length (y :: ys).length=min xs.length ys.length+1:=by simp only [qg];omega
  rw [jU,ih,e,rW];have e0:pQ (x :: xs) (y :: ys) 0=eqP x y:=rfl
  have e1:(fun j=>pQ (x :: xs) (y :: ys) (j+1))=pQ xs ys:=by
   funext j;simp [pQ]
  have e2:((x :: xs).length == (y :: ys).length)=(xs.length == ys.length):=by
   simp only [qg];by_cases h:xs.length=ys.length
   ·simp [h]
   ·have h':¬ (xs.length+1=ys.length+1):=by omega
    simp [h,h']
  rw [e0,e1,e2,Bool.and_assoc]
theorem a8T {xs ys:List D} (h:(xs.length != ys.length)=true):jU xs ys=false:=by
 rw [gY];have:(xs.length == ys.length)=false:=by simpa using h
 rw [this,Bool.and_false]
theorem a4O {xs ys:List D} (h:xs.length=ys.length):jU xs ys=(dh xs.length).all (pQ xs ys):=by
 rw [gY,h];simp
theorem bV.azU {K:Fg} {H:Hp} {n:Nat} (ih:∀ {x y:D} {v:V},aP n x=true->aP n y=true->RD K H x v->RD K H y v->x=y):∀ {xs ys:List D},(∀ x∈xs,aP n x=true)->(∀ y∈ys,aP n y=true)->bV K H xs vs->bV K H ys vs->xs=ys:=by
 induction vs with
 | nil=>intro xs ys _ _ h1 h2;cases h1;cases h2;rfl
 | cons v vs jh =>
  intro xs ys hx hy h1 h2;cases h1 with
  | cons a r =>
  cases h2 with
  | cons b t=>rw [ih (hx _ (jj ..)) (hy _ (jj ..)) a b,jh (fun x m=>hx x (iu _ m)) (fun y m=>hy y (iu _ m)) r t]
theorem RD.inj {σ:St} {H:Hp} {s:Shared} (I:Inv X pins σ H s) {n:Nat}:∀ {x y:D} {v:V},aP n x=true->aP n y=true->RD X.K H x v->RD X.K H y v->x=y:=by
 induction n with
 | zero=>intro x y v hx hy h1 h2;cases h1 <;> cases h2 <;> first | rfl | cases hx | cases hy
 | succ n ih =>
  intro x y v hx hy h1 h2;cases h1 with
  | tup s1 r1 _ =>
   cases h2 with
   | tup s2 r2 _ =>
    have e:=I.yK s1 s2;subst e;rw [bV.azU ih (by simpa [aP] using hx) (by simpa [aP] using hy) r1 r2]
   | ref=>cases hy
  | ref=>cases hx
  | _=>cases h2;rfl
mutual
theorem a8U:∀ {n:Nat} {x:D},aP n x=true->eqP x x=true
 | _,.non,_=>rfl
 | _,.bl b,_=>by simp [eqP]
 | _,.int b,_=>by simp [eqP]
 | _,.str b,_=>by simp [eqP]
 | n,.ref _,h=>by cases n <;> simp [aP] at h
 | n,.ty _,h=>by cases n <;> simp [aP] at h
 | 0,.tup _,h=>by simp [aP] at h
 | n+1,.tup xs,h=>by rw [eqP];exact lG (n:=n) (by simpa [aP] using h)
theorem lG:∀ {n:Nat} {xs:List D},(∀ x∈xs,aP n x=true)->jU xs xs=true
 | _,[],_=>rfl
 | n,x :: xs,h=>by rw [jU,a8U (h x (by simp)),lG fun y m=>h y (by simp [m])];rfl
end
theorem Vals.a8V {K:Fg} {H:Hp} (r:bV K H ds xs) (v:Vals xs us) {j:Nat} (e:us[j]?=some u):∃ d x,ds[j]?=some d/\RD K H d x/\RelV x u:=by
 have hj:j < us.length:=(cj.mp e).1;have hj':j < xs.length:=by rw [v.length];exact hj
 have ex:xs[j]?=some xs[j]:=dj hj';obtain ⟨u',e1,r1⟩:=v.get ex;rw [e] at e1;cases e1;obtain ⟨d,e2,r2⟩:=r.ahL ex;exact ⟨d,_,e2,r2,r1⟩
theorem rY {A:Around} {s:Shared} {K:Fg} {H:Hp} {n:Nat} {xs ys:List D} {vx vy:List V} {ws:List Value} (rx:bV K H xs vx) (ry:bV K H ys vy) (vx':Vals vx us) (vy':Vals vy ws)
  (ih:∀ x∈xs,∀ y∈ys,∀ (v w:V) (u t:Value),RD K H x v->RD K H y w->RelV v u->RelV w t->SeqAt.EqAt A s u t (eqP x y)) :
  ∀ j (h1:j < us.toArray.size) (h2:j < ws.toArray.size),SeqAt.EqAt A s us.toArray[j] ws.toArray[j] (pQ xs ys j):=by
 intro j h1 h2;have e1:us[j]?=some us.toArray[j]:=by simp [dj (show j < us.length by simpa using h1)]
 have e2:ws[j]?=some ws.toArray[j]:=by simp [dj (show j < ws.length by simpa using h2)]
 obtain ⟨d,x,f1,f2,f3⟩:=Vals.a8V rx vx' e1;obtain ⟨d',y,g1,g2,g3⟩:=Vals.a8V ry vy' e2;have e:pQ xs ys j=eqP d d':=by simp [pQ,f1,g1]
 rw [e];exact ih d (iw f1) d' (iw g1) x y _ _ f2 g2 f3 g3
noncomputable def scD:D->Bool
 | .non=>true
 | .bl _=>true
 | .int _=>true
 | .str _=>true
 | _=>false
theorem anG {A:Around} {s:Shared} {K:Fg} {H:Hp} {x y:D} {v:Value} (hx:scD x=true) (hy:scD y=true) (rx:RD K H x vx) (ry:RD K H y vy) (ru:RelV vx u) (rv:RelV vy v):SeqAt.EqAt A s u v (eqP x y):=by
 have fx:qR vx=true:=by cases rx <;> first | rfl | cases hx
 have fy:qR vy=true:=by cases ry <;> first | rfl | cases hy
 have e:eqV vx vy=eqP x y:=by cases rx <;> cases ry <;> first | (simp [eqV,eqP];done) | cases hx | cases hy
 rw [← e];exact yO ru rv fx fy
theorem rZ {A:Around} {n:Nat} (h:A.units+(n+1) < cLine):A.in1.units+n < cLine:=by
 show A.units+1+n < cLine;omega
theorem a1E {σ:St} {H:Hp} {s:Shared} (I:Inv X pins σ H s):∀ (n:Nat) (A:Around) (x y:D) (vx vy:V) (u v:Value),A.units+n < cLine->aP n x=true->aP n y=true->RD X.K H x vx->RD X.K H y vy->RelV vx u->RelV vy v->SeqAt.EqAt A s u v (eqP x y):=by
 intro n
 induction n with
 | zero =>
  intro A x y vx vy u v hu hx hy rx ry ru rv;have sx:scD x=true:=by cases x <;> first | rfl | (simp [aP] at hx)
  have sy:scD y=true:=by cases y <;> first | rfl | (simp [aP] at hy)
  exact anG sx sy rx ry ru rv
 | succ n ih =>
  intro A x y vx vy u v hu hx hy rx ry ru rv;have hu0:A.units < cLine:=by omega
  cases rx with
  | @tup ax xs ds hax rax eax =>
   cases ru;obtain ⟨its,vv,px,_⟩:=I.tuple hax;cases ry with
   | @tup ay ys es hay ray eay =>
    cases rv;obtain ⟨jts,ww,py,_⟩:=I.tuple hay;by_cases hab:ax=ay
    ·subst hab;have e:=RD.inj I (n:=n+1) hx hy (.tup hax rax eax) (.tup hay ray eay);rw [e,a8U hy];exact SeqAt.EqAt.same _
    ·refine SeqAt.EqAt.of_refs hab ?_
     have z:=SeqAt.RcAt.tuples (e:=pQ ds es) (show s.heap.IsTuple ax its.toArray from px) (show s.heap.IsTuple ay jts.toArray from py) hu0 (rY (n:=n) rax ray vv ww fun x mx y my v w u t r1 r2 r3 r4 =>
      ih A.in1 x y v w u t (rZ hu) (gj.mp (by simpa [aP] using hx) x mx) (gj.mp (by simpa [aP] using hy) y my) r1 r2 r3 r4)
     have e:((dh (min its.toArray.size jts.toArray.size)).all (pQ ds es)&&its.toArray.size == jts.toArray.size)=eqP (.tup ds) (.tup es):=by
      rw [eqP,gY,aq,aq,← vv.length,← ww.length,← rax.length,← ray.length]
     rw [e] at z;exact z
   | non=>cases rv;exact SeqAt.EqAt.tuple_none (show s.heap.IsTuple ax its.toArray from px) hu0
   | bl b=>cases rv;exact SeqAt.EqAt.tuple_bool b (show s.heap.IsTuple ax its.toArray from px) hu0
   | int i=>obtain ⟨t,rfl⟩:=rv;exact SeqAt.EqAt.tuple_int i t (show s.heap.IsTuple ax its.toArray from px) hu0
   | str z=>obtain ⟨t,rfl⟩:=rv;exact SeqAt.EqAt.tuple_str z t (show s.heap.IsTuple ax its.toArray from px) hu0
   | ref _=>simp [aP] at hy
   | ty _=>simp [aP] at hy
  | ref _=>simp [aP] at hx
  | ty _=>simp [aP] at hx
  | non =>
   cases ry with
   | @tup ay ys es hay ray =>
    cases rv;cases ru;obtain ⟨jts,ww,py,_⟩:=I.tuple hay;exact SeqAt.EqAt.none_tuple (show s.heap.IsTuple ay jts.toArray from py) hu0
   | ref _=>simp [aP] at hy
   | ty _=>simp [aP] at hy
   | _=>exact yO ru rv rfl rfl
  | bl b =>
   cases ry with
   | @tup ay ys es hay ray =>
    cases rv;cases ru;obtain ⟨jts,ww,py,_⟩:=I.tuple hay;exact SeqAt.EqAt.bool_tuple b (show s.heap.IsTuple ay jts.toArray from py) hu0
   | ref _=>simp [aP] at hy
   | ty _=>simp [aP] at hy
   | _=>exact yO ru rv rfl rfl
  | int i =>
   cases ry with
   | @tup ay ys es hay ray =>
    cases rv;obtain ⟨t,rfl⟩:=ru;obtain ⟨jts,ww,py,_⟩:=I.tuple hay;exact SeqAt.EqAt.int_tuple i t (show s.heap.IsTuple ay jts.toArray from py) hu0
   | ref _=>simp [aP] at hy
   | ty _=>simp [aP] at hy
   | _=>exact yO ru rv rfl rfl
  | str z =>
   cases ry with
   | @tup ay ys es hay ray =>
    cases rv;obtain ⟨t,rfl⟩:=ru;obtain ⟨jts,ww,py,_⟩:=I.tuple hay;exact SeqAt.EqAt.str_tuple z t (show s.heap.IsTuple ay jts.toArray from py) hu0
   | ref _=>simp [aP] at hy
   | ty _=>simp [aP] at hy
   | _=>exact yO ru rv rfl rfl
end
end
variable {a1 a2:Addr}
section
section
variable {X:Cx}
theorem aEI {σ:St} {H:Hp} {s:Shared} (I:Inv X pins σ H s) (n:Nat) (A:Around) (x y:D) (vx vy:V) (u v:Value) (hu:A.units+(n+1) < cLine) (hx:aP (n+1) x=true) (hy:aP (n+1) y=true) (rx:RD X.K H x vx) (ry:RD X.K H y vy) (ru:RelV vx u) (rv:RelV vy v):SeqAt.RcAt A s u v (eqP x y):=by
 have hu0:A.units < cLine:=by omega
 cases rx with
 | non =>
  cases ru;cases ry with
  | non =>
   cases rv
   first | exact SeqAt.RcAt.none_none | (simp only [eqP];exact SeqAt.RcAt.none_none)
  | bl b2 =>
   cases rv
   first | exact SeqAt.RcAt.none_bool b2 | (simp only [eqP];exact SeqAt.RcAt.none_bool b2)
  | int i2 =>
   obtain ⟨t2,rfl⟩:=rv
   first | exact SeqAt.RcAt.none_int i2 t2 | (simp only [eqP];exact SeqAt.RcAt.none_int i2 t2)
  | str z2 =>
   obtain ⟨t2,rfl⟩:=rv
   first | exact SeqAt.RcAt.none_str z2 t2 | (simp only [eqP];exact SeqAt.RcAt.none_str z2 t2)
  | @tup a2 xs2 oN h2 r2 =>
   cases rv;obtain ⟨its2,vv2,p2,_⟩:=I.tuple h2
   first | exact SeqAt.RcAt.none_tuple (show s.heap.IsTuple a2 its2.toArray from p2) hu0 | (simp only [eqP];exact SeqAt.RcAt.none_tuple (show s.heap.IsTuple a2 its2.toArray from p2) hu0)
  | ref _=>simp [aP] at hy
  | ty _=>simp [aP] at hy
 | bl b1 =>
  cases ru;cases ry with
  | non =>
   cases rv
   first | exact SeqAt.RcAt.bool_none b1 | (simp only [eqP];exact SeqAt.RcAt.bool_none b1)
  | bl b2 =>
   cases rv
   first | exact SeqAt.RcAt.bool_bool b1 b2 | (simp only [eqP];exact SeqAt.RcAt.bool_bool b1 b2)
  | int i2 =>
   obtain ⟨t2,rfl⟩:=rv
   first | exact SeqAt.RcAt.bool_int b1 i2 t2 | (simp only [eqP];exact SeqAt.RcAt.bool_int b1 i2 t2)
  | str z2 =>
   obtain ⟨t2,rfl⟩:=rv
   first | exact SeqAt.RcAt.bool_str b1 z2 t2 | (simp only [eqP];exact SeqAt.RcAt.bool_str b1 z2 t2)
  | @tup a2 xs2 oN h2 r2 =>
   cases rv;obtain ⟨its2,vv2,p2,_⟩:=I.tuple h2
   first | exact SeqAt.RcAt.bool_tuple b1 (show s.heap.IsTuple a2 its2.toArray from p2) hu0 | (simp only [eqP];exact SeqAt.RcAt.bool_tuple b1 (show s.heap.IsTuple a2 its2.toArray from p2) hu0)
  | ref _=>simp [aP] at hy
  | ty _=>simp [aP] at hy
 | int i1 =>
  obtain ⟨t1,rfl⟩:=ru;cases ry with
  | non =>
   cases rv
   first | exact SeqAt.RcAt.int_none i1 t1 | (simp only [eqP];exact SeqAt.RcAt.int_none i1 t1)
  | bl b2 =>
   cases rv
   first | exact SeqAt.RcAt.int_bool i1 t1 b2 | (simp only [eqP];exact SeqAt.RcAt.int_bool i1 t1 b2)
  | int i2 =>
   obtain ⟨t2,rfl⟩:=rv
   first | exact SeqAt.RcAt.int_int i1 t1 i2 t2 | (simp only [eqP];exact SeqAt.RcAt.int_int i1 t1 i2 t2)
  | str z2 =>
   obtain ⟨t2,rfl⟩:=rv
   first | exact SeqAt.RcAt.int_str i1 t1 z2 t2 | (simp only [eqP];exact SeqAt.RcAt.int_str i1 t1 z2 t2)
  | @tup a2 xs2 oN h2 r2 =>
   cases rv;obtain ⟨its2,vv2,p2,_⟩:=I.tuple h2
   first | exact SeqAt.RcAt.int_tuple i1 t1 (show s.heap.IsTuple a2 its2.toArray from p2) hu0 | (simp only [eqP];exact SeqAt.RcAt.int_tuple i1 t1 (show s.heap.IsTuple a2 its2.toArray from p2) hu0)
  | ref _=>simp [aP] at hy
  | ty _=>simp [aP] at hy
 | str z1 =>
  obtain ⟨t1,rfl⟩:=ru;cases ry with
  | non =>
   cases rv
   first | exact SeqAt.RcAt.str_none z1 t1 | (simp only [eqP];exact SeqAt.RcAt.str_none z1 t1)
  | bl b2 =>
   cases rv
   first | exact SeqAt.RcAt.str_bool z1 t1 b2 | (simp only [eqP];exact SeqAt.RcAt.str_bool z1 t1 b2)
  | int i2 =>
   obtain ⟨t2,rfl⟩:=rv
   first | exact SeqAt.RcAt.str_int z1 t1 i2 t2 | (simp only [eqP];exact SeqAt.RcAt.str_int z1 t1 i2 t2)
  | str z2 =>
   obtain ⟨t2,rfl⟩:=rv
   first | exact SeqAt.RcAt.str_str z1 t1 z2 t2 | (simp only [eqP];exact SeqAt.RcAt.str_str z1 t1 z2 t2)
  | @tup a2 xs2 oN h2 r2 =>
   cases rv;obtain ⟨its2,vv2,p2,_⟩:=I.tuple h2
   first | exact SeqAt.RcAt.str_tuple z1 t1 (show s.heap.IsTuple a2 its2.toArray from p2) hu0 | (simp only [eqP];exact SeqAt.RcAt.str_tuple z1 t1 (show s.heap.IsTuple a2 its2.toArray from p2) hu0)
  | ref _=>simp [aP] at hy
  | ty _=>simp [aP] at hy
 | @tup a1 xs1 yR h1 r1 =>
  cases ru;obtain ⟨dG,vv1,p1,_⟩:=I.tuple h1;cases ry with
  | non =>
   cases rv
   first | exact SeqAt.RcAt.tuple_none (show s.heap.IsTuple a1 dG.toArray from p1) hu0 | (simp only [eqP];exact SeqAt.RcAt.tuple_none (show s.heap.IsTuple a1 dG.toArray from p1) hu0)
  | bl b2 =>
   cases rv
   first | exact SeqAt.RcAt.tuple_bool b2 (show s.heap.IsTuple a1 dG.toArray from p1) hu0 | (simp only [eqP];exact SeqAt.RcAt.tuple_bool b2 (show s.heap.IsTuple a1 dG.toArray from p1) hu0)
  | int i2 =>
   obtain ⟨t2,rfl⟩:=rv
   first | exact SeqAt.RcAt.tuple_int i2 t2 (show s.heap.IsTuple a1 dG.toArray from p1) hu0 | (simp only [eqP];exact SeqAt.RcAt.tuple_int i2 t2 (show s.heap.IsTuple a1 dG.toArray from p1) hu0)
  | str z2 =>
   obtain ⟨t2,rfl⟩:=rv
   first | exact SeqAt.RcAt.tuple_str z2 t2 (show s.heap.IsTuple a1 dG.toArray from p1) hu0 | (simp only [eqP];exact SeqAt.RcAt.tuple_str z2 t2 (show s.heap.IsTuple a1 dG.toArray from p1) hu0)
  | @tup a2 xs2 oN h2 r2 =>
   cases rv;obtain ⟨its2,vv2,p2,_⟩:=I.tuple h2
   have z:=SeqAt.RcAt.tuples (e:=pQ yR oN) (show s.heap.IsTuple a1 dG.toArray from p1) (show s.heap.IsTuple a2 its2.toArray from p2) hu0 (rY (n:=n) r1 r2 vv1 vv2 fun x mx y my v w u t q1 q2 q3 q4 =>
      a1E I n A.in1 x y v w u t (rZ hu) (gj.mp (by simpa [aP] using hx) x mx) (gj.mp (by simpa [aP] using hy) y my) q1 q2 q3 q4)
   have e:((dh (min dG.toArray.size its2.toArray.size)).all (pQ yR oN)&&dG.toArray.size == its2.toArray.size)=eqP (.tup yR) (.tup oN):=by
    rw [eqP,gY,aq,aq,← vv1.length,← vv2.length,← r1.length,← r2.length]
   rw [e] at z;exact z
  | ref _=>simp [aP] at hy
  | ty _=>simp [aP] at hy
 | ref _=>simp [aP] at hx
 | ty _=>simp [aP] at hx
theorem aEJ {σ:St} {H:Hp} {s:Shared} (I:Inv X pins σ H s) (n:Nat) (A:Around) (hl:rF X.K H a1 xs) (y:D) (vy:V) (v:Value) (hu0:A.units < cLine) (hy:aP n y=true) (ry:RD X.K H y vy) (rv:RelV vy v):SeqAt.RcAt A s (.ref a1) v false:=by
 obtain ⟨dG,vv1,pl,_⟩:=I.list hl;have p1:=pl.isList;cases ry with
 | non =>
  cases rv;exact SeqAt.RcAt.list_none p1 hu0
 | bl b2 =>
  cases rv;exact SeqAt.RcAt.list_bool b2 p1 hu0
 | int i2 =>
  obtain ⟨t2,rfl⟩:=rv;exact SeqAt.RcAt.list_int i2 t2 p1 hu0
 | str z2 =>
  obtain ⟨t2,rfl⟩:=rv;exact SeqAt.RcAt.list_str z2 t2 p1 hu0
 | @tup a2 xs2 oN h2 r2 =>
  cases rv;obtain ⟨its2,vv2,p2,_⟩:=I.tuple h2;exact SeqAt.RcAt.list_tuple (show s.heap.IsList a1 dG.toArray from p1) (show s.heap.IsTuple a2 its2.toArray from p2) hu0
 | ref _=>cases n <;> simp [aP] at hy
 | ty _=>cases n <;> simp [aP] at hy
theorem aEK {σ:St} {H:Hp} {s:Shared} (I:Inv X pins σ H s) (n:Nat) (A:Around) (hl:rF X.K H a2 xs) (y:D) (vy:V) (v:Value) (hu0:A.units < cLine) (hy:aP n y=true) (ry:RD X.K H y vy) (rv:RelV vy v):SeqAt.RcAt A s v (.ref a2) false:=by
 obtain ⟨its2,vv2,pl,_⟩:=I.list hl;have p2:=pl.isList;cases ry with
 | non =>
  cases rv;exact SeqAt.RcAt.none_list p2 hu0
 | bl b1 =>
  cases rv;exact SeqAt.RcAt.bool_list b1 p2 hu0
 | int i1 =>
  obtain ⟨t1,rfl⟩:=rv;exact SeqAt.RcAt.int_list i1 t1 p2 hu0
 | str z1 =>
  obtain ⟨t1,rfl⟩:=rv;exact SeqAt.RcAt.str_list z1 t1 p2 hu0
 | @tup a1 xs1 yR h1 r1 =>
  cases rv;obtain ⟨dG,vv1,p1,_⟩:=I.tuple h1;exact SeqAt.RcAt.tuple_list (show s.heap.IsTuple a1 dG.toArray from p1) (show s.heap.IsList a2 its2.toArray from p2) hu0
 | ref _=>cases n <;> simp [aP] at hy
 | ty _=>cases n <;> simp [aP] at hy
theorem azV {σ:St} {H:Hp} {s:Shared} (I:Inv X pins σ H s) (n:Nat) (A:Around) {xs1 xs2:List V} {yR oN:List D} (h1:rF X.K H a1 xs1) (h2:rF X.K H a2 xs2) (r1:bV X.K H yR xs1) (r2:bV X.K H oN xs2)
  (hu:A.units+(n+1) < cLine) (hx:yR.all (aP n)=true) (hy:oN.all (aP n)=true):SeqAt.RcAt A s (.ref a1) (.ref a2) (jU yR oN):=by
 have hu0:A.units < cLine:=by omega
 obtain ⟨dG,vv1,q1,_⟩:=I.list h1;obtain ⟨its2,vv2,q2,_⟩:=I.list h2;have p1:=q1.isList;have p2:=q2.isList;by_cases hl:yR.length=oN.length
 ·have hsz:dG.toArray.size=its2.toArray.size:=by rw [aq,aq,← vv1.length,← vv2.length,← r1.length,← r2.length];exact hl
  have z:=SeqAt.RcAt.lists (e:=pQ yR oN) p1 p2 hsz hu0 (rY (n:=n) r1 r2 vv1 vv2 fun x mx y my v w u t q1 q2 q3 q4 =>
      a1E I n A.in1 x y v w u t (rZ hu) (gj.mp hx x mx) (gj.mp hy y my) q1 q2 q3 q4)
  have e:(dh dG.toArray.size).all (pQ yR oN)=jU yR oN:=by rw [a4O hl,aq,← vv1.length,← r1.length]
  rw [e] at z;exact z
 ·have hne:(dG.toArray.size != its2.toArray.size)=true:=by rw [aq,aq,← vv1.length,← vv2.length,← r1.length,← r2.length];simpa using hl
  have e:jU yR oN=false:=a8T (by simpa using hl);rw [e];exact SeqAt.RcAt.lists_lengths p1 p2 hne hu0
theorem au9 {σ:St} {H:Hp} {s:Shared} (I:Inv X pins σ H s) (n:Nat) (A:Around) (x y:D) (vx vy:V) (u v:Value) (hu:A.units+(n+1) < cLine) (hx:aP (n+1) x=true) (hy:aP (n+1) y=true) (rx:RD X.K H x vx) (ry:RD X.K H y vy) (ru:RelV vx u) (rv:RelV vy v):SeqAt.RcNeAt A s u v (!eqP x y):=by
 have hu0:A.units < cLine:=by omega
 cases rx with
 | non =>
  cases ru;cases ry with
  | non =>
   cases rv
   first | exact SeqAt.RcNeAt.none_none | (simp only [eqP];exact SeqAt.RcNeAt.none_none)
  | bl b2 =>
   cases rv
   first | exact SeqAt.RcNeAt.none_bool b2 | (simp only [eqP];exact SeqAt.RcNeAt.none_bool b2)
  | int i2 =>
   obtain ⟨t2,rfl⟩:=rv
   first | exact SeqAt.RcNeAt.none_int i2 t2 | (simp only [eqP];exact SeqAt.RcNeAt.none_int i2 t2)
  | str z2 =>
   obtain ⟨t2,rfl⟩:=rv
   first | exact SeqAt.RcNeAt.none_str z2 t2 | (simp only [eqP];exact SeqAt.RcNeAt.none_str z2 t2)
  | @tup a2 xs2 oN h2 r2 =>
   cases rv;obtain ⟨its2,vv2,p2,_⟩:=I.tuple h2
   first | exact SeqAt.RcNeAt.none_tuple (show s.heap.IsTuple a2 its2.toArray from p2) hu0 | (simp only [eqP];exact SeqAt.RcNeAt.none_tuple (show s.heap.IsTuple a2 its2.toArray from p2) hu0)
  | ref _=>simp [aP] at hy
  | ty _=>simp [aP] at hy
 | bl b1 =>
  cases ru;cases ry with
  | non =>
   cases rv
   first | exact SeqAt.RcNeAt.bool_none b1 | (simp only [eqP];exact SeqAt.RcNeAt.bool_none b1)
  | bl b2 =>
   cases rv
   first | exact SeqAt.RcNeAt.bool_bool b1 b2 | (simp only [eqP];exact SeqAt.RcNeAt.bool_bool b1 b2)
  | int i2 =>
   obtain ⟨t2,rfl⟩:=rv
   first | exact SeqAt.RcNeAt.bool_int b1 i2 t2 | (simp only [eqP];exact SeqAt.RcNeAt.bool_int b1 i2 t2)
  | str z2 =>
   obtain ⟨t2,rfl⟩:=rv
   first | exact SeqAt.RcNeAt.bool_str b1 z2 t2 | (simp only [eqP];exact SeqAt.RcNeAt.bool_str b1 z2 t2)
  | @tup a2 xs2 oN h2 r2 =>
   cases rv;obtain ⟨its2,vv2,p2,_⟩:=I.tuple h2
   first | exact SeqAt.RcNeAt.bool_tuple b1 (show s.heap.IsTuple a2 its2.toArray from p2) hu0 | (simp only [eqP];exact SeqAt.RcNeAt.bool_tuple b1 (show s.heap.IsTuple a2 its2.toArray from p2) hu0)
  | ref _=>simp [aP] at hy
  | ty _=>simp [aP] at hy
 | int i1 =>
  obtain ⟨t1,rfl⟩:=ru;cases ry with
  | non =>
   cases rv
   first | exact SeqAt.RcNeAt.int_none i1 t1 | (simp only [eqP];exact SeqAt.RcNeAt.int_none i1 t1)
  | bl b2 =>
   cases rv
   first | exact SeqAt.RcNeAt.int_bool i1 t1 b2 | (simp only [eqP];exact SeqAt.RcNeAt.int_bool i1 t1 b2)
  | int i2 =>
   obtain ⟨t2,rfl⟩:=rv
   first | exact SeqAt.RcNeAt.int_int i1 t1 i2 t2 | (simp only [eqP];exact SeqAt.RcNeAt.int_int i1 t1 i2 t2)
  | str z2 =>
   obtain ⟨t2,rfl⟩:=rv
   first | exact SeqAt.RcNeAt.int_str i1 t1 z2 t2 | (simp only [eqP];exact SeqAt.RcNeAt.int_str i1 t1 z2 t2)
  | @tup a2 xs2 oN h2 r2 =>
   cases rv;obtain ⟨its2,vv2,p2,_⟩:=I.tuple h2
   first | exact SeqAt.RcNeAt.int_tuple i1 t1 (show s.heap.IsTuple a2 its2.toArray from p2) hu0 | (simp only [eqP];exact SeqAt.RcNeAt.int_tuple i1 t1 (show s.heap.IsTuple a2 its2.toArray from p2) hu0)
  | ref _=>simp [aP] at hy
  | ty _=>simp [aP] at hy
 | str z1 =>
  obtain ⟨t1,rfl⟩:=ru;cases ry with
  | non =>
   cases rv
   first | exact SeqAt.RcNeAt.str_none z1 t1 | (simp only [eqP];exact SeqAt.RcNeAt.str_none z1 t1)
  | bl b2 =>
   cases rv
   first | exact SeqAt.RcNeAt.str_bool z1 t1 b2 | (simp only [eqP];exact SeqAt.RcNeAt.str_bool z1 t1 b2)
  | int i2 =>
   obtain ⟨t2,rfl⟩:=rv
   first | exact SeqAt.RcNeAt.str_int z1 t1 i2 t2 | (simp only [eqP];exact SeqAt.RcNeAt.str_int z1 t1 i2 t2)
  | str z2 =>
   obtain ⟨t2,rfl⟩:=rv
   first | exact SeqAt.RcNeAt.str_str z1 t1 z2 t2 | (simp only [eqP];exact SeqAt.RcNeAt.str_str z1 t1 z2 t2)
  | @tup a2 xs2 oN h2 r2 =>
   cases rv;obtain ⟨its2,vv2,p2,_⟩:=I.tuple h2
   first | exact SeqAt.RcNeAt.str_tuple z1 t1 (show s.heap.IsTuple a2 its2.toArray from p2) hu0 | (simp only [eqP];exact SeqAt.RcNeAt.str_tuple z1 t1 (show s.heap.IsTuple a2 its2.toArray from p2) hu0)
  | ref _=>simp [aP] at hy
  | ty _=>simp [aP] at hy
 | @tup a1 xs1 yR h1 r1 =>
  cases ru;obtain ⟨dG,vv1,p1,_⟩:=I.tuple h1;cases ry with
  | non =>
   cases rv
   first | exact SeqAt.RcNeAt.tuple_none (show s.heap.IsTuple a1 dG.toArray from p1) hu0 | (simp only [eqP];exact SeqAt.RcNeAt.tuple_none (show s.heap.IsTuple a1 dG.toArray from p1) hu0)
  | bl b2 =>
   cases rv
   first | exact SeqAt.RcNeAt.tuple_bool b2 (show s.heap.IsTuple a1 dG.toArray from p1) hu0 | (simp only [eqP];exact SeqAt.RcNeAt.tuple_bool b2 (show s.heap.IsTuple a1 dG.toArray from p1) hu0)
  | int i2 =>
   obtain ⟨t2,rfl⟩:=rv
   first | exact SeqAt.RcNeAt.tuple_int i2 t2 (show s.heap.IsTuple a1 dG.toArray from p1) hu0 | (simp only [eqP];exact SeqAt.RcNeAt.tuple_int i2 t2 (show s.heap.IsTuple a1 dG.toArray from p1) hu0)
  | str z2 =>
   obtain ⟨t2,rfl⟩:=rv
   first | exact SeqAt.RcNeAt.tuple_str z2 t2 (show s.heap.IsTuple a1 dG.toArray from p1) hu0 | (simp only [eqP];exact SeqAt.RcNeAt.tuple_str z2 t2 (show s.heap.IsTuple a1 dG.toArray from p1) hu0)
  | @tup a2 xs2 oN h2 r2 =>
   cases rv;obtain ⟨its2,vv2,p2,_⟩:=I.tuple h2
   have z:=SeqAt.RcNeAt.tuples (e:=pQ yR oN) (show s.heap.IsTuple a1 dG.toArray from p1) (show s.heap.IsTuple a2 its2.toArray from p2) hu0 (rY (n:=n) r1 r2 vv1 vv2 fun x mx y my v w u t q1 q2 q3 q4 =>
      a1E I n A.in1 x y v w u t (rZ hu) (gj.mp (by simpa [aP] using hx) x mx) (gj.mp (by simpa [aP] using hy) y my) q1 q2 q3 q4)
   have e:((dh (min dG.toArray.size its2.toArray.size)).all (pQ yR oN)&&dG.toArray.size == its2.toArray.size)=eqP (.tup yR) (.tup oN):=by
    rw [eqP,gY,aq,aq,← vv1.length,← vv2.length,← r1.length,← r2.length]
   rw [e] at z;exact z
  | ref _=>simp [aP] at hy
  | ty _=>simp [aP] at hy
 | ref _=>simp [aP] at hx
 | ty _=>simp [aP] at hx
theorem auA {σ:St} {H:Hp} {s:Shared} (I:Inv X pins σ H s) (n:Nat) (A:Around) (hl:rF X.K H a1 xs) (y:D) (vy:V) (v:Value) (hu0:A.units < cLine) (hy:aP n y=true) (ry:RD X.K H y vy) (rv:RelV vy v):SeqAt.RcNeAt A s (.ref a1) v true:=by
 obtain ⟨dG,vv1,pl,_⟩:=I.list hl;have p1:=pl.isList;cases ry with
 | non =>
  cases rv;exact SeqAt.RcNeAt.list_none p1 hu0
 | bl b2 =>
  cases rv;exact SeqAt.RcNeAt.list_bool b2 p1 hu0
 | int i2 =>
  obtain ⟨t2,rfl⟩:=rv;exact SeqAt.RcNeAt.list_int i2 t2 p1 hu0
 | str z2 =>
  obtain ⟨t2,rfl⟩:=rv;exact SeqAt.RcNeAt.list_str z2 t2 p1 hu0
 | @tup a2 xs2 oN h2 r2 =>
  cases rv;obtain ⟨its2,vv2,p2,_⟩:=I.tuple h2;exact SeqAt.RcNeAt.list_tuple (show s.heap.IsList a1 dG.toArray from p1) (show s.heap.IsTuple a2 its2.toArray from p2) hu0
 | ref _=>cases n <;> simp [aP] at hy
 | ty _=>cases n <;> simp [aP] at hy
theorem auB {σ:St} {H:Hp} {s:Shared} (I:Inv X pins σ H s) (n:Nat) (A:Around) (hl:rF X.K H a2 xs) (y:D) (vy:V) (v:Value) (hu0:A.units < cLine) (hy:aP n y=true) (ry:RD X.K H y vy) (rv:RelV vy v):SeqAt.RcNeAt A s v (.ref a2) true:=by
 obtain ⟨its2,vv2,pl,_⟩:=I.list hl;have p2:=pl.isList;cases ry with
 | non =>
  cases rv;exact SeqAt.RcNeAt.none_list p2 hu0
 | bl b1 =>
  cases rv;exact SeqAt.RcNeAt.bool_list b1 p2 hu0
 | int i1 =>
  obtain ⟨t1,rfl⟩:=rv;exact SeqAt.RcNeAt.int_list i1 t1 p2 hu0
 | str z1 =>
  obtain ⟨t1,rfl⟩:=rv;exact SeqAt.RcNeAt.str_list z1 t1 p2 hu0
 | @tup a1 xs1 yR h1 r1 =>
  cases rv;obtain ⟨dG,vv1,p1,_⟩:=I.tuple h1;exact SeqAt.RcNeAt.tuple_list (show s.heap.IsTuple a1 dG.toArray from p1) (show s.heap.IsList a2 its2.toArray from p2) hu0
 | ref _=>cases n <;> simp [aP] at hy
 | ty _=>cases n <;> simp [aP] at hy
theorem auC {σ:St} {H:Hp} {s:Shared} (I:Inv X pins σ H s) (n:Nat) (A:Around) {xs1 xs2:List V} {yR oN:List D} (h1:rF X.K H a1 xs1) (h2:rF X.K H a2 xs2) (r1:bV X.K H yR xs1) (r2:bV X.K H oN xs2)
  (hu:A.units+(n+1) < cLine) (hx:yR.all (aP n)=true) (hy:oN.all (aP n)=true):SeqAt.RcNeAt A s (.ref a1) (.ref a2) (!jU yR oN):=by
 have hu0:A.units < cLine:=by omega
 obtain ⟨dG,vv1,q1,_⟩:=I.list h1;obtain ⟨its2,vv2,q2,_⟩:=I.list h2;have p1:=q1.isList;have p2:=q2.isList;by_cases hl:yR.length=oN.length
 ·have hsz:dG.toArray.size=its2.toArray.size:=by rw [aq,aq,← vv1.length,← vv2.length,← r1.length,← r2.length];exact hl
  have z:=SeqAt.RcNeAt.lists (e:=pQ yR oN) p1 p2 hsz hu0 (rY (n:=n) r1 r2 vv1 vv2 fun x mx y my v w u t q1 q2 q3 q4 =>
      a1E I n A.in1 x y v w u t (rZ hu) (gj.mp hx x mx) (gj.mp hy y my) q1 q2 q3 q4)
  have e:(dh dG.toArray.size).all (pQ yR oN)=jU yR oN:=by rw [a4O hl,aq,← vv1.length,← r1.length]
  rw [e] at z;exact z
 ·have hne:(dG.toArray.size != its2.toArray.size)=true:=by rw [aq,aq,← vv1.length,← vv2.length,← r1.length,← r2.length];simpa using hl
  have e:jU yR oN=false:=a8T (by simpa using hl);rw [e];exact SeqAt.RcNeAt.lists_lengths p1 p2 hne hu0
def eqG (G:Gp) (x y:D) (k:Bool->Prop):Prop:=match x,y with
 | .ref a,.ref b=>(match aL G a,aL G b with
  | some xs,some ys=>xs.all (aP 20)=true/\ys.all (aP 20)=true/\k (jU xs ys)
  | _,_=>False)
 | .ref a,y=>(match aL G a with
  | some _=>aP 20 y=true/\k false
  | none=>False)
 | x,.ref b=>(match aL G b with
  | some _=>aP 20 x=true/\k false
  | none=>False)
 | x,y=>aP 20 x=true/\aP 20 y=true/\k (eqP x y)
noncomputable def jV:R3:=fun x y G R=>eqG G x y fun b=>R (.bl b) G
noncomputable def ahU:R3:=fun x y G R=>eqG G x y fun b=>R (.bl (!b)) G
theorem a6E {f:Value->Value->Sem Value} {r3:R3} (h:∀ (pins:List (Addr×Obj)) (s:Shared) (σ:St) (H:Hp) (x y:D) (vx vy:V) (u v:Value) (G:Gp) (R:dX) (Q:VK),Inv X pins σ H s->RD X.K H x vx->RD X.K H y vy->RelV vx u->RelV vy v->HR X.K H G->r3 x y G R ->
   (∀ w H' d G',Ts H H'->RD X.K H' d w->HR X.K H' G'->R d G'->Q w H')->wpAny (model X.prog X.w) X.A (f u v) (EP X pins σ Q) X.xe s):mV X f r3 :=
 ⟨fun vx vy H Q=>∃ x y G R,RD X.K H x vx/\RD X.K H y vy/\HR X.K H G/\r3 x y G R/\∀ w H' d G',Ts H H'->RD X.K H' d w->HR X.K H' G'->R d G'->Q w H',
  fun pins s σ H vx vy u v Q I ru rv ⟨x,y,G,R,rx,ry,g,q,k⟩=>h pins s σ H x y vx vy u v G R Q I rx ry ru rv g q k,fun H x y vx vy G R Q rx ry g q k=>⟨x,y,G,R,rx,ry,g,q,k⟩⟩
theorem ad0 (hu:X.A.units+64 < cLine) {neg:Bool} (hop:op=if neg then .NotEq else .Eq) {s:Shared} {σ:St} {H:Hp} {x y:D} {v:Value} {G:Gp} {k:Bool->Prop} (I:Inv X pins σ H s) (rx:RD X.K H x vx) (ry:RD X.K H y vy) (ru:RelV vx u) (rv:RelV vy v) (g:HR X.K H G)
  (h:eqG G x y k) (hk:∀ b,k b->EP X pins σ Q (.bool (neg ^^ b)) s):wpAny (model X.prog X.w) X.A (compareOp op u v) (EP X pins σ Q) X.xe s:=by
 have fin:∀ {b:Bool},(if neg then SeqAt.RcNeAt X.A s u v (!b) else SeqAt.RcAt X.A s u v b)->k b->wpAny (model X.prog X.w) X.A (compareOp op u v) (EP X pins σ Q) X.xe s:=fun {b} z kb=>by
  have e:=hk b kb;cases neg with
  | true =>
   subst hop;rw [Bool.true_xor] at e;exact z X.prog X.w X.xe _ e
  | false =>
   subst hop;rw [a0A] at e;exact z X.prog X.w X.xe _ e
 have hu1:X.A.units+(20+1) < cLine:=by omega
 have hu2:X.A.units+(19+1) < cLine:=by omega
 have hu0:X.A.units < cLine:=by omega
 have plain:aP 20 x=true->aP 20 y=true->k (eqP x y)->wpAny (model X.prog X.w) X.A (compareOp op u v) (EP X pins σ Q) X.xe s:=fun hx hy kk=>fin (b:=eqP x y) (by
  cases neg with
  | true=>exact au9 I 19 X.A x y vx vy u v hu2 hx hy rx ry ru rv
  | false=>exact aEI I 19 X.A x y vx vy u v hu2 hx hy rx ry ru rv) kk
 have left:∀ a xs,x = .ref a->aL G a=some xs->aP 20 y=true->k false->wpAny (model X.prog X.w) X.A (compareOp op u v) (EP X pins σ Q) X.xe s:=fun a xs e1 e2 hy kk=>by
  subst e1;cases rx;cases ru;obtain ⟨zs,hz,_⟩:=bN g e2;refine fin (b:=false) ?_ kk;cases neg with
  | true=>exact auA I 20 X.A hz y vy v hu0 hy ry rv
  | false=>exact aEJ I 20 X.A hz y vy v hu0 hy ry rv
 have right:∀ a xs,y = .ref a->aL G a=some xs->aP 20 x=true->k false->wpAny (model X.prog X.w) X.A (compareOp op u v) (EP X pins σ Q) X.xe s:=fun a xs e1 e2 hy kk=>by
  subst e1;cases ry;cases rv;obtain ⟨zs,hz,_⟩:=bN g e2;refine fin (b:=false) ?_ kk;cases neg with
  | true=>exact auB I 20 X.A hz x vx u hu0 hy rx ru
  | false=>exact aEK I 20 X.A hz x vx u hu0 hy rx ru
 unfold eqG at h;split at h
 ·rename_i a b;split at h
  ·rename_i xs ys e1 e2;cases rx;cases ry;cases ru;cases rv;obtain ⟨zs1,hz1,q1⟩:=bN g e1;obtain ⟨zs2,hz2,q2⟩:=bN g e2;refine fin (b:=jU xs ys) ?_ h.2.2;cases neg with
   | true=>exact auC I 20 X.A hz1 hz2 q1 q2 hu1 h.1 h.2.1
   | false=>exact azV I 20 X.A hz1 hz2 q1 q2 hu1 h.1 h.2.1
  ·exact h.elim
 ·rename_i a _;split at h
  ·rename_i xs e1;exact left a xs rfl e1 h.1 h.2
  ·exact h.elim
 ·rename_i b _;split at h
  ·rename_i xs e1;exact right b xs rfl e1 h.1 h.2
  ·exact h.elim
 ·exact plain h.1 h.2.1 h.2.2
theorem aEL (hu:X.A.units+64 < cLine):mV X (compareOp .Eq) jV:=a6E fun pins s σ H x y vx vy u v G R Q I rx ry ru rv g q k =>
 ad0 (neg:=false) hu rfl I rx ry ru rv g q fun b kb=>⟨.bl b,H,I,by rw [a0A];rfl,k _ H (.bl b) G (.refl H) (.bl b) g kb⟩
theorem aEM (hu:X.A.units+64 < cLine):mV X (compareOp .NotEq) ahU:=a6E fun pins s σ H x y vx vy u v G R Q I rx ry ru rv g q k =>
 ad0 (neg:=true) hu rfl I rx ry ru rv g q fun b kb=>⟨.bl (!b),H,I,by rw [Bool.true_xor];rfl,k _ H (.bl (!b)) G (.refl H) (.bl (!b)) g kb⟩
end
end
section
open PySem.W PySem.Calls
open PySem.Builtin PySem.Builtin.ObjectAttr PySem.Builtin.Getset_descriptor
section
variable {prog:Program} {w:World} {A:Around} {E:Value->Shared->Prop} {s:Shared} {K:Fg} {x C:Addr} {o:Obj}
theorem a3M {tp:Value} {R:Result->Shared->Prop} (X:K.In s.heap) (hx:s.heap.get? x=some o) (hc:o.cls = .ref C) (hm:mroIn K C (.type "object")=some true)
  (h:R (.ok (.ret (.ref C))) s):codeAny (model prog w) A (.call (.builtin "getset_descriptor.__get__") ⟨[.builtin "object.__class__",.ref x,tp],[]⟩) R s:=by
 obtain ⟨hh,g,dr,t,os⟩:=s;have L0:Looks (model prog w) hh (typeOf (.ref x)) (.ref C):=hc ▸ (Looks.ld hx).andThen .now;have L1:=looks_mroIn (M:=model prog w) X hm;refine codeAny_call_builtin KF.slot_gs.plain KF.entry_gs (KF.slot_gs.check _ _ _ _ _ _ _ _ KF.type_class (KF.args_gs _ _ _) ?_);unfold Builtin.«getset_descriptor.__get__» descrGet;rw [dga_obj];refine aj (bh ?_);unfold descrGetter descrCheckInstance descrNameAndClass isInstance;simp only [KF.owner_class]
 repeat lk
 refine ⟨Code.quiet_builtin _ (by decide +kernel),codeAny_builtin KF.entry_class ?_⟩;unfold Builtin.«object.__class__» shownTypeOf
 repeat lk
 exact h
theorem afM {Q:Option Value->Shared->Prop} (X:K.In s.heap) (hx:s.heap.get? x=some o) (hc:o.cls = .ref C)
  (hga:findIn K (.ref C) "__getattribute__" = some (some (.builtin "BaseException.__getattribute__"))) (hgn:findIn K (.ref C) "__getattr__" = some none) (ha:findIn K (.ref C) "__class__" = some (some (.builtin "object.__class__")))
  (hb:subIn K (.ref C) (.type "BaseException")=some true) (hm:mroIn K C (.type "object")=some true) (h:Q (some (.ref C)) { s with toks:=s.toks+1 }):wpAny (model prog w) A (getAttr? (.ref x) "__class__") Q E s:=by
 obtain ⟨hh,g,d,t,os⟩:=s;have L0:Looks (model prog w) hh (typeOf (.ref x)) (.ref C):=hc ▸ (Looks.ld hx).andThen .now;have L1:=looks_findIn (M:=model prog w) X hga;have L2':=looks_findIn (M:=model prog w) X hgn;have L3:=looks_findIn (M:=model prog w) X ha;have L4:=looks_subIn (M:=model prog w) X hb;unfold getAttr? getAttrBy? getAttrBy;refine aj (wpAny_mkText (aj (wpAny_attempt (wpAny_holding (aj (L0.at (aj (L1.at ?_))))))));have hx2:(Value.builtin "BaseException.__getattribute__" == Value.builtin "object.__getattribute__")=false:=by decide +kernel
 have f3:=PySem.F.attr_ValueError.ga.bind (.ref x);have hk:builtinKind "BaseException.__getattribute__" = some .slot:=by decide +kernel
 have hsplit:splitId "BaseException.__getattribute__" = some ("BaseException", "__getattribute__"):=by decide +kernel
 have ha2:=PySem.F.args_bexc_ga (.ref x) (.str "__class__" t)
 repeat (first | with_reducible refine L0.at ?_ | with_reducible refine L1.at ?_ | with_reducible refine L2'.at ?_ | with_reducible refine L3.at ?_ | with_reducible refine L4.at ?_ | wp_step)
 refine codeAny_call_builtin PySem.F.attr_ValueError.ga.plain PySem.F.entry_bexc_ga ?_;simp only [checkBuiltinCall,hk,hsplit];unfold isInstance;have f5:=PySem.F.typeOf_object_class;have f6:=PySem.F.slot_gs_get.lookup;have f7:=PySem.F.slot_gs_set.lookup
 repeat (any_goals (first | assumption | with_reducible refine L0.at ?_ | with_reducible refine L1.at ?_ | with_reducible refine L2'.at ?_ | with_reducible refine L3.at ?_ | with_reducible refine L4.at ?_ | wp_step))
 refine a3M X hx hc hm ?_
 repeat (any_goals (first | assumption | wp_step))
end
end
variable {T:String}{R:dX}
section
section
variable {X:Cx} {x:Str} {p pos:Pos} {e o:Expr} {es:List Expr} {t:pK} {to:cF} {id T:String} {r3:List D->Gp->dX->Prop}
noncomputable def cJ (X:Cx) (f:Value) (r3:List D->Gp->dX->Prop):Prop :=
 ∀ (pins:List (Addr×Obj)) (s:Shared) (σ:St) (H:Hp) (xs:List D) (vs:List V) (us:List Value) (G:Gp) (R:dX) (Q:VK),Inv X pins σ H s->bV X.K H xs vs->Vals vs us->HR X.K H G->r3 xs G R ->
  (∀ v H' d G',Ts H H'->RD X.K H' d v->HR X.K H' G'->R d G'->Q v H')->wpAny (model X.prog X.w) X.A (call f us) (EP X pins σ Q) X.xe s
theorem cJ.of {f:Value} {r:List V->Hp->VK->Prop} (h:oM X f r) (i:∀ (H:Hp) (xs:List D) (vs:List V) (G:Gp) (R:dX) (Q:VK),bV X.K H xs vs->HR X.K H G->r3 xs G R ->
  (∀ v H' d G',Ts H H'->RD X.K H' d v->HR X.K H' G'->R d G'->Q v H')->r vs H fun v H'=>KF X.K H'->Q v H'):cJ X f r3:=fun pins s σ H xs vs us G R Q I rx rv g q k =>
 cL (h pins s σ H vs us _ I rv (i H xs vs G R Q rx g q k)) fun _ _ ⟨v,H',I',r,q'⟩=>⟨v,H',I',r,q' (uV I')⟩
noncomputable def cX (r3:List D->Gp->dX->Prop) (t:pK):cF:=fun ρ G R=>t ρ G fun xs G1=>r3 xs G1 R
theorem uK (hc:cJ X (.builtin id) r3) (hg:Gl X x) (hm:X.mg x=none) (hv:bootBuiltins x=some (.builtin id)) (ha:PA3 X (e :: es) t) (hn:x ≠ "__name__" := by decide) (hdb:(x == ("__debug__" : Str))=false:=by decide)
  (he:starEach (e :: es) X.env=(false,eval e X.env) :: starEach es X.env:=by rfl) (hpl:(backTo pos (starEach es X.env)).any (·.1)=false:=by rfl):cM X (.Call (.Name x p) (e :: es) [] pos) (cX r3 t):=by
 intro pins s σ H Q I h _tk;obtain ⟨ρ,G,R,sr,g,q,kk⟩:=h;refine wpAny_Call_Name_kw (rG I hg hm hv ?_ hn hdb)
 exact PyProof.Rows.callWith_builtin1 (cL (ha pos pins s σ H (fun vs H1=>Ts H H1/\∃ ds G1,bV X.K H1 ds vs/\HR X.K H1 G1/\r3 ds G1 R) I ⟨ρ,G,_,sr,g,q,fun vs H1 ds G1 t1 r1 g1 q1=>⟨t1,ds,G1,r1,g1,q1⟩⟩) fun us s1 ⟨vs,H1,I1,r,t1,ds,G1,r1,g1,q1⟩ =>
  hc pins s1 σ H1 ds vs us G1 R Q I1 r1 r g1 q1 fun v H' d G' t2=>kk v H' d G' (t1.trans t2)) he hpl
theorem ahV (hc:cJ X (.type T) r3) (hg:Gl X x) (hm:X.mg x=none) (hv:bootBuiltins x=some (.type T)) (ha:PA3 X (e :: es) t) (hn:x ≠ "__name__" := by decide) (hdb:(x == ("__debug__" : Str))=false:=by decide)
  (he:starEach (e :: es) X.env=(false,eval e X.env) :: starEach es X.env:=by rfl) (hpl:(backTo pos (starEach es X.env)).any (·.1)=false:=by rfl):cM X (.Call (.Name x p) (e :: es) [] pos) (cX r3 t):=by
 intro pins s σ H Q I h _tk;obtain ⟨ρ,G,R,sr,g,q,kk⟩:=h;refine wpAny_Call_Name_kw (rG I hg hm hv ?_ hn hdb)
 exact PyProof.Rows.callWith_type1 (cL (ha pos pins s σ H (fun vs H1=>Ts H H1/\∃ ds G1,bV X.K H1 ds vs/\HR X.K H1 G1/\r3 ds G1 R) I ⟨ρ,G,_,sr,g,q,fun vs H1 ds G1 t1 r1 g1 q1=>⟨t1,ds,G1,r1,g1,q1⟩⟩) fun us s1 ⟨vs,H1,I1,r,t1,ds,G1,r1,g1,q1⟩ =>
  hc pins s1 σ H1 ds vs us G1 R Q I1 r1 r g1 q1 fun v H' d G' t2=>kk v H' d G' (t1.trans t2)) he hpl
noncomputable def dY:List D->Gp->dX->Prop:=fun xs G R=>match xs with
 | [.str z]=>z.length<=sizeLine/\R (.int z.length) G
 | [.tup ds]=>R (.int ds.length) G
 | [.ref q]=>(match aL G q with
  | some ds=>R (.int ds.length) G
  | none=>False)
 | _=>False
theorem azX:cJ X (.builtin "len") dY:=cJ.of (a65.or a66) fun H xs vs G R Q rx g q k=>by
 cases rx with
 | nil=>exact False.elim q
 | cons r rr =>
  cases rr with
  | cons _ _=>cases r <;> exact False.elim q
  | nil =>
   cases r with
   | str z=>exact .inr ⟨z,rfl,q.1,fun _=>k _ H _ G (.refl H) (.int _) g q.2⟩
   | @tup a xs ds ha ra=>exact .inl ⟨a,xs,rfl,.inr ha,fun _=>by rw [← ra.length];exact k _ H _ G (.refl H) (.int _) g q⟩
   | ref a =>
    have q':(match aL G a with
     | some ds=>R (.int ds.length) G
     | none=>False):=q
    split at q'
    ·rename_i ds e1;obtain ⟨xs,h1,r1⟩:=bN g e1;exact .inl ⟨a,xs,rfl,.inl h1,fun _=>by rw [← r1.length];exact k _ H _ G (.refl H) (.int _) g q'⟩
    ·exact q'.elim
   | _=>exact False.elim q
noncomputable def aqN:List D->Gp->dX->Prop:=fun xs G R=>match xs with
 | [.int i]=>R (.int i) G
 | [.bl b]=>R (.int (if b then 1 else 0)) G
 | _=>False
theorem azY:cJ X (.type "int") aqN:=cJ.of af7 fun H xs vs G R Q rx g q k=>by
 cases rx with
 | nil=>exact False.elim q
 | cons r rr =>
  cases rr with
  | cons _ _=>cases r <;> exact False.elim q
  | nil =>
   cases r with
   | int i=>exact .inl ⟨i,rfl,fun _=>k _ H _ G (.refl H) (.int _) g q⟩
   | bl b=>exact .inr ⟨b,rfl,fun _=>k _ H _ G (.refl H) (.int _) g q⟩
   | _=>exact False.elim q
noncomputable def vP:List D->Gp->dX->Prop:=fun xs G R=>match xs with
 | [.tup ds]=>∀ l,G l=none->R (.ref l) (aG G l (.lst ds))
 | [.ref q]=>(match aL G q with
  | some ds=>∀ l,G l=none->R (.ref l) (aG G l (.lst ds))
  | none=>False)
 | _=>False
theorem auD:cJ X (.type "list") vP:=cJ.of a67 fun H xs vs G R Q rx g q k=>by
 cases rx with
 | nil=>exact False.elim q
 | cons r rr =>
  cases rr with
  | cons _ _=>cases r <;> exact False.elim q
  | nil =>
   cases r with
   | @tup a xs ds ha ra =>
    refine ⟨a,xs,rfl,.inr ha,fun l hl kf=>?_⟩;have sn:Same H (upd H l (.lst xs)):=bC hl;exact k _ _ _ _ (.same sn) (.ref l) (g.put (u := .lst ds) hl ⟨_,aH,ra.mono (.same sn)⟩) (q l (lR g hl kf))
   | ref a =>
    have q':(match aL G a with
     | some ds=>∀ l,G l=none->R (.ref l) (aG G l (.lst ds))
     | none=>False):=q
    split at q'
    ·rename_i ds e1;obtain ⟨xs,h1,r1⟩:=bN g e1;refine ⟨a,xs,rfl,.inl h1,fun l hl kf=>?_⟩;have sn:Same H (upd H l (.lst xs)):=bC hl;exact k _ _ _ _ (.same sn) (.ref l) (g.put (u := .lst ds) hl ⟨_,aH,r1.mono (.same sn)⟩) (q' l (lR g hl kf))
    ·exact q'.elim
   | _=>exact False.elim q
noncomputable def tyD (G:Gp):D->Option String
 | .non=>some "NoneType"
 | .bl _=>some "bool"
 | .int _=>some "int"
 | .str _=>some "str"
 | .tup _=>some "tuple"
 | .ref q=>(match G q with
  | some (.lst _)=>some "list"
  | some (.rol _)=>some "list"
  | some (.dic _ _)=>some "dict"
  | _=>none)
 | .ty _=>none
noncomputable def exD (G:Gp):D->Option Addr
 | .ref q=>(match G q with
  | some (.exn C)=>some C
  | _=>none)
 | _=>none
noncomputable def subB (T n:String):Bool:=T == n || (T == "bool" && n == "int")
noncomputable def azZ:List String:=["NoneType", "bool", "int", "str", "list", "tuple", "dict"]
noncomputable def yS:List String:=["int", "bool", "str", "list", "tuple", "dict", "ValueError"]
theorem auF:∀ T∈azZ,∀ n∈yS,ur [] (.type T) (.type n)=some (subB T n):=by decide +kernel
theorem jW (K:Fg) {n:String} (h1:T∈azZ) (h2:n∈yS):ur K (.type T) (.type n)=some (subB T n):=auF T h1 n h2
structure ExC (K:Fg) (C:Addr):Prop where
 ga:su K (.ref C) "__getattribute__" = some (some (.builtin "BaseException.__getattribute__"))
 gn:su K (.ref C) "__getattr__" = some none
 cl:su K (.ref C) "__class__" = some (some (.builtin "object.__class__"))
 be:PySem.W.subIn K (.ref C) (.type "BaseException")=some true
 ob:PySem.W.mroIn K C (.type "object")=some true
 cs:(xg K C).isSome=true
theorem ahW {K:Fg} {a:Addr} (c:ExC K C):PySem.W.KitX K (.ref a) (.ref C) (a8N C a) where
 ty:=fun M h X ⟨o,vs,h1,h2,_⟩=>h2 ▸ (PySem.W.Looks.ld h1).andThen .now
 it:=fun M h X _=>by
  intro A' Q' E' s' k q;cases eK:xg K C with
  | none=>have:=c.cs;rw [eK] at this;cases this
  | some cd =>
   unfold xg at eK;split at eK
   ·rename_i ho;unfold isType loadHead;exact aj (wpAny_loadPart (k _ _ (X _ _ ho)) (bh q))
   ·cases eK
 ne:=fun h tp dd its n sl X htp=>by
  refine Bool.eq_false_iff.mpr fun q=>?_;have e:C=tp:=Value.ref.inj (beq_iff_eq.mp q);subst e;cases eK:xg K C with
  | none=>have:=c.cs;rw [eK] at this;cases this
  | some cd =>
   unfold xg at eK;split at eK
   ·rename_i ho;have z:=(X _ _ ho).symm.trans htp;cases z
   ·cases eK
 ca:=fun X ⟨o,vs,h1,h2,_⟩ k=>afM X h1 h2 c.ga c.gn c.cl c.be c.ob k
noncomputable def bW (K:Fg):List D->Gp->dX->Prop:=fun xs G R=>match xs with
 | [x,.ty n]=>(match tyD G x with
  | some T=>n∈yS/\R (.bl (subB T n)) G
  | none=>(match exD G x with
   | some C=>∃ b,ExC K C/\ur K (.ref C) (.type n)=some b/\R (.bl b) G
   | none=>False))
 | [x,.ref C']=>(match exD G x with
  | some C=>∃ b,ExC K C/\ur K (.ref C) (.ref C')=some b/\R (.bl b) G
  | none=>False)
 | _=>False
theorem ahX {G:Gp} {x:D} (h:exD G x=some C):∃ a,x = .ref a/\G a=some (.exn C):=by
 cases x with
 | ref q =>
  refine ⟨q,rfl,?_⟩
  have h':(match G q with
   | some (.exn C)=>some C
   | _=>none)=some C:=h
  split at h'
  ·rename_i e1;cases h';exact e1
  ·cases h'
 | _=>cases h
theorem a6F {s:Shared} {σ:St} {H:Hp} {a:Addr} {c:Value} {b:Bool} {G:Gp} (I:Inv X pins σ H s) (g:HR X.K H G) (e:G a=some (.exn C)) (hc:ExC X.K C) (hk:ur X.K (.ref C) c=some b) (q:R (.bl b) G)
  (k:∀ v H' d G',Ts H H'->RD X.K H' d v->HR X.K H' G'->R d G'->Q v H'):wpAny (model X.prog X.w) X.A (call (.builtin "isinstance") [.ref a,c]) (EP X pins σ Q) X.xe s:=by
 obtain ⟨o0,vs0,z,_⟩:=g a _ e;obtain ⟨_,z1,_,_⟩:=I.hok a _ z;exact qp (ahW hc) I.kIn z1 hk (fun z=>nomatch z) fun tk=>⟨.bl b,H,I.tok tk,rfl,k _ H _ G (.refl H) (.bl b) g q⟩
theorem auH {s:Shared} {σ:St} {H:Hp} {x:D} {n:String} {G:Gp} (I:Inv X pins σ H s) (rx:RD X.K H x vx) (ru:RelV vx u) (g:HR X.K H G) (e:tyD G x=some T) (hn:n∈yS) (q:R (.bl (subB T n)) G)
  (k:∀ v H' d G',Ts H H'->RD X.K H' d v->HR X.K H' G'->R d G'->Q v H'):wpAny (model X.prog X.w) X.A (call (.builtin "isinstance") [u,.type n]) (EP X pins σ Q) X.xe s:=by
 have fin:∀ tk,EP X pins σ Q (.bool (subB T n)) { s with toks:=tk }:=fun tk=>⟨.bl _,H,I.tok tk,rfl,k _ H _ G (.refl H) (.bl _) g q⟩;cases rx with
 | non=>cases ru;cases e;exact qp PySem.W.kitx_none I.kIn True.intro (jW _ (by decide) hn) (fun z=>nomatch z) fin
 | bl b=>cases ru;cases e;exact qp PySem.W.kitx_bool I.kIn True.intro (jW _ (by decide) hn) (fun z=>nomatch z) fin
 | int i=>obtain ⟨t,rfl⟩:=ru;cases e;exact qp PySem.W.kitx_int I.kIn True.intro (jW _ (by decide) hn) (fun z=>nomatch z) fin
 | str i=>obtain ⟨t,rfl⟩:=ru;cases e;exact qp PySem.W.kitx_str I.kIn True.intro (jW _ (by decide) hn) (fun z=>nomatch z) fin
 | ty n=>cases e
 | @tup a xs ds ha ra =>
  cases ru;cases e;obtain ⟨its,_,p,_⟩:=I.tuple ha;obtain ⟨o,h1,h2,_⟩:=p;exact qp PySem.W.kitx_tuple I.kIn ⟨o,h1,h2⟩ (jW _ (by decide) hn) (fun z=>nomatch z) fin
 | ref a =>
  cases ru
  have e':(match G a with
   | some (.lst _)=>some "list"
   | some (.rol _)=>some "list"
   | some (.dic _ _)=>some "dict"
   | _=>none)=some T:=e
  split at e'
  ·rename_i ds e1;cases e';obtain ⟨xs,h1,_⟩:=bN g (show aL G a=some ds by unfold aL;rw [e1]);obtain ⟨its,_,p,_⟩:=I.list h1;obtain ⟨o,n',h1,h2,_⟩:=p;exact qp PySem.W.kitx_list I.kIn ⟨o,h1,h2⟩ (jW _ (by decide) hn) (fun z=>nomatch z) fin
  ·rename_i ds e1;cases e';obtain ⟨xs,h1,_⟩:=bN g (show aL G a=some ds by unfold aL;rw [e1]);obtain ⟨its,_,p,_⟩:=I.list h1;obtain ⟨o,n',h1,h2,_⟩:=p;exact qp PySem.W.kitx_list I.kIn ⟨o,h1,h2⟩ (jW _ (by decide) hn) (fun z=>nomatch z) fin
  ·rename_i kvs e1;cases e';rcases g a _ e1 with ⟨_,xs,h1,_⟩ | ⟨_,xs,h1,_⟩
   ·obtain ⟨_,_,vs,_,o,es,ep,h1,h2,_⟩:=I.hok a _ h1;exact qp PySem.W.kitx_dict I.kIn ⟨o,h1,h2.1⟩ (jW _ (by decide) hn) (fun z=>nomatch z) fin
   ·obtain ⟨_,_,xs,_,o,es,ep,h1,h2,_⟩:=I.hok a _ h1;exact qp PySem.W.kitx_dict I.kIn ⟨o,h1,h2.1⟩ (jW _ (by decide) hn) (fun z=>nomatch z) fin
  ·cases e'
theorem a6G:cJ X (.builtin "isinstance") (bW X.K):=by
 intro pins s σ H xs vs us G R Q I rx rv g q k;cases rx with
 | nil=>exact False.elim q
 | @cons x v ds ws r1 rr =>
  cases rr with
  | nil=>cases r1 <;> exact False.elim q
  | @cons y v2 oN ws2 r2 rr2 =>
   cases rr2 with
   | cons _ _=>cases r2 <;> exact False.elim q
   | nil =>
    obtain ⟨u1,u2,rfl,ru1,ru2⟩:=vals2 rv;cases r2 with
    | ty n =>
     cases ru2
     have q':(match tyD G x with
      | some T=>n∈yS/\R (.bl (subB T n)) G
      | none=>(match exD G x with
       | some C=>∃ b,ExC X.K C/\ur X.K (.ref C) (.type n)=some b/\R (.bl b) G
       | none=>False)):=q
     split at q'
     ·rename_i T eT;exact auH I r1 ru1 g eT q'.1 q'.2 k
     ·split at q'
      ·rename_i C eC;obtain ⟨a,rfl,ea⟩:=ahX eC;obtain ⟨b,hc,hk,q'⟩:=q';cases r1;cases ru1;exact a6F I g ea hc hk q' k
      ·exact q'.elim
    | ref C' =>
     cases ru2
     have q':(match exD G x with
      | some C=>∃ b,ExC X.K C/\ur X.K (.ref C) (.ref C')=some b/\R (.bl b) G
      | none=>False):=q
     split at q'
     ·rename_i C eC;obtain ⟨a,rfl,ea⟩:=ahX eC;obtain ⟨b,hc,hk,q'⟩:=q';cases r1;cases ru1;exact a6F I g ea hc hk q' k
     ·exact q'.elim
    | _=>exact False.elim q
end
end
variable {id:String}
section
theorem a1F {K:Fg} {H:Hp} {x:D} {vx:V} (hx:scD x=true) (rx:RD K H x vx):∀ {ys:List D} {vs:List V},bV K H ys vs->ys.all scD=true->vs.any (fun y=>eqV y vx)=ys.any (fun y=>eqP y x)
 | _,_,.nil,_=>rfl
 | _,_,.cons h r,hs=>by
  rw [qz,ak] at hs;rw [wz,wz,a1F hx rx r hs.2];congr 1;obtain ⟨h1,_⟩:=hs;cases rx <;> cases h <;> first | (simp [eqV,eqP];done) | cases hx | cases h1
theorem wV {K:Fg} {H:Hp} {x:D} (hx:scD x=true) (rx:RD K H x vx):qR vx=true:=by cases rx <;> first | rfl | cases hx
theorem sE {K:Fg} {H:Hp}:∀ {ys:List D} {vs:List V},bV K H ys vs->ys.all scD=true->vs.all qR=true
 | _,_,.nil,_=>rfl
 | _,_,.cons h r,hs=>by
  rw [qz,ak] at hs;rw [qz,wV hs.1 h,sE r hs.2];rfl
def inG (G:Gp) (x y:D) (k:Bool->Prop):Prop:=match x,y with
 | .str i,.str j=>k (!(Builtin.Str.occurrences j i 0 j.length 1).isEmpty)
 | x,.tup ys=>scD x=true/\ys.all scD=true/\k (ys.any fun y=>eqP y x)
 | x,.ref p=>(match aL G p with
  | some ys=>scD x=true/\ys.all scD=true/\k (ys.any fun y=>eqP y x)
  | none=>False)
 | _,_=>False
noncomputable def aA0:R3:=fun x y G R=>inG G x y fun b=>R (.bl b) G
noncomputable def ad1:R3:=fun x y G R=>inG G x y fun b=>R (.bl (!b)) G
section
variable {X:Cx}
theorem aEO (hu:X.A.units+64 < cLine):mV X (compareOp .In) aA0:=by
 refine ⟨_,af4.or afA,fun H x y vx vy G R Q rx ry g h k=>?_⟩;have h':inG G x y fun b=>R (.bl b) G:=h;unfold inG at h';split at h'
 ·cases rx;cases ry;exact .inl ⟨_,_,rfl,rfl,k _ H _ G (.refl H) (.bl _) g h'⟩
 ·cases ry with
  | @tup a xs ds ha ra =>
   refine .inr ⟨a,xs,rfl,.inr ha,wV h'.1 rx,sE ra h'.2.1,?_⟩;have e:inV vx xs=_:=a1F h'.1 rx ra h'.2.1;simp only [fj,if_false];rw [e];exact k _ H _ G (.refl H) (.bl _) g h'.2.2
 ·cases ry;split at h'
  ·rename_i ys e1;obtain ⟨xs,hq,ra⟩:=bN g e1;refine .inr ⟨_,xs,rfl,.inl hq,wV h'.1 rx,sE ra h'.2.1,?_⟩;have e:inV vx xs=_:=a1F h'.1 rx ra h'.2.1;simp only [fj,if_false];rw [e];exact k _ H _ G (.refl H) (.bl _) g h'.2.2
  ·exact h'.elim
 ·exact h'.elim
theorem anI (hu:X.A.units+64 < cLine):mV X (compareOp .NotIn) ad1:=by
 refine ⟨_,a5V.or a5Z,fun H x y vx vy G R Q rx ry g h k=>?_⟩;have h':inG G x y fun b=>R (.bl (!b)) G:=h;unfold inG at h';split at h'
 ·cases rx;cases ry;exact .inl ⟨_,_,rfl,rfl,k _ H _ G (.refl H) (.bl _) g h'⟩
 ·cases ry with
  | @tup a xs ds ha ra =>
   refine .inr ⟨a,xs,rfl,.inr ha,wV h'.1 rx,sE ra h'.2.1,?_⟩;have e:inV vx xs=_:=a1F h'.1 rx ra h'.2.1;simp only [if_true];rw [e];exact k _ H _ G (.refl H) (.bl _) g h'.2.2
 ·cases ry;split at h'
  ·rename_i ys e1;obtain ⟨xs,hq,ra⟩:=bN g e1;refine .inr ⟨_,xs,rfl,.inl hq,wV h'.1 rx,sE ra h'.2.1,?_⟩;have e:inV vx xs=_:=a1F h'.1 rx ra h'.2.1;simp only [if_true];rw [e];exact k _ H _ G (.refl H) (.bl _) g h'.2.2
  ·exact h'.elim
 ·exact h'.elim
def anJ (x:D) (lo hi:Option Int) (G:Gp) (R:dX):Prop:=match x with
 | .tup xs=>¬ (HT.gR xs.length 0 lo=0/\HT.gR xs.length xs.length hi=xs.length)/\R (.tup (cutD xs lo hi)) G
 | .str z=>z.length<=sizeLine/\R (.str (Txt.slice z lo hi)) G
 | .ref p=>(match aL G p with
  | some xs=>∀ q,G q=none->R (.ref q) (aG G q (.lst (cutD xs lo hi)))
  | none=>False)
 | _=>False
theorem auI:SlR X (fun x lo hi H Q=>∃ z,x = .str z/\z.length<=sizeLine/\Q (.str (Txt.slice z lo hi)) H):=by
 intro pins s σ H x v vl vu lo hi sl Q I rx hs pl pu h;obtain ⟨z,rfl,hz,q⟩:=h;obtain ⟨t,rfl⟩:=rx;refine ⟨"str",_,F.slot_str_getitem.lookup,typeIs_str _ _ _,?_⟩;have fin:∀ t' k,EP X pins σ Q (.str (Txt.slice z lo hi) t') { s with toks:=k }:=fun t' k=>⟨.str _,H,I.tok k,⟨t',rfl⟩,q⟩;cases pl with
 | none =>
  cases pu with
  | none=>exact wpAny_getItem_str_slice (l:=none) (u:=none) (st:=none) hs rfl (post_val_or_str ⟨ju (Txt.slice_le z _ _) hz,fin⟩)
  | int j uj=>exact wpAny_getItem_str_slice (l:=none) (u:=some (j,uj)) (st:=none) hs rfl (post_val_or_str ⟨ju (Txt.slice_le z _ _) hz,fin⟩)
 | int i ui =>
  cases pu with
  | none=>exact wpAny_getItem_str_slice (l:=some (i,ui)) (u:=none) (st:=none) hs rfl (post_val_or_str ⟨ju (Txt.slice_le z _ _) hz,fin⟩)
  | int j uj=>exact wpAny_getItem_str_slice (l:=some (i,ui)) (u:=some (j,uj)) (st:=none) hs rfl (post_val_or_str ⟨ju (Txt.slice_le z _ _) hz,fin⟩)
theorem ahY {K:Fg} {H:Hp} (r:bV K H ds xs) (lo hi:Option Int):bV K H (cutD ds lo hi) (a3H xs lo hi):=by
 unfold cutD a3H;rw [r.length];exact (r.drop _).take _
noncomputable def wW (te:cF) (tl th:TO3):cF:=fun ρ G R=>te ρ G fun x G1=>tl ρ G1 fun lo G2=>th ρ G2 fun hi G3=>anJ x lo hi G3 R
theorem anK {lo hi:Option Expr} {tl th:TO3} {p2 pos:Pos} (he:cM X e te) (hl:PO3 X lo tl) (hu:PO3 X hi th):cM X (.Subscript e (.Slice lo hi none p2) pos) (wW te tl th):=by
 refine PE.imp (PE.kf (ahB (amW.or (atA.or auI)) he hl hu)) fun σ H Q h=>?_;obtain ⟨ρ,G,R,s,g,q,k⟩:=h;refine ⟨ρ,G,_,s,g,q,fun vx H1 x G1 t1 rx g1 q1=>?_⟩;refine ⟨ρ,G1,_,s.mono t1,g1,q1,fun l H2 G2 t2 g2 q2=>?_⟩;refine ⟨ρ,G2,_,s.mono (t1.trans t2),g2,q2,fun u H3 G3 t3 g3 q3=>?_⟩;have rx3:=rx.mono (t2.trans t3);have tt:=(t1.trans t2).trans t3;cases rx3 with
 | @tup a xs ds ha ra =>
  refine .inr (.inl ⟨a,xs,rfl,ha,by rw [← ra.length];exact q3.1,fun p hp _=>?_⟩);have sn:Same H3 (upd H3 p (.tup (a3H xs l u))):=bC hp;exact k _ _ _ G3 (tt.trans (.same sn)) (.tup (qQ.of aH) ((ahY ra l u).mono (.same sn)) (ahK aH)) (g3.same sn) q3.2
 | str z=>exact .inr (.inr ⟨z,rfl,q3.1,fun _=>k _ H3 _ G3 tt (.str _) g3 q3.2⟩)
 | ref p =>
  have q3':(match aL G3 p with
   | some xs=>∀ q,G3 q=none->R (.ref q) (aG G3 q (.lst (cutD xs l u)))
   | none=>False):=q3
  split at q3'
  ·rename_i ds e1;obtain ⟨xs,hq,ra⟩:=bN g3 e1;refine .inl ⟨p,xs,rfl,hq,fun b hb kf=>?_⟩;have sn:Same H3 (upd H3 b (.lst (a3H xs l u))):=bC hb;exact k _ _ _ _ (tt.trans (.same sn)) (.ref b) (g3.put (u := .lst (cutD ds l u)) hb ⟨_,aH,(ahY ra l u).mono (.same sn)⟩) (q3' b (lR g3 hb kf))
  ·exact q3'.elim
 | _=>exact False.elim q3
noncomputable def a6H (T:String) (G:Gp):D->Prop
 | .str _=>T = "str"
 | .ref p=>T = "list" /\ (aL G p).isSome=true
 | _=>False
theorem ahZ {K:Fg} {H:Hp} {G:Gp} {x:D} (g:HR K H G) (r:RD K H x v) (h:a6H T G x):tyV K T v H:=by
 cases r with
 | str z=>exact h
 | ref p =>
  obtain ⟨rfl,h⟩:=h;obtain ⟨ds,e⟩:=a0b.mp h;obtain ⟨xs,hq,_⟩:=bN g e;exact .inl ⟨rfl,xs,hq⟩
 | _=>exact False.elim h
abbrev RM3:=D->List D->Gp->dX->Prop
noncomputable def a09 (X:Cx) (id:String) (r3:RM3):Prop :=
 ∀ (pins:List (Addr×Obj)) (s:Shared) (σ:St) (H:Hp) (x:D) (xs:List D) (vx:V) (vs:List V) (u:Value) (us:List Value) (G:Gp) (R:dX) (Q:VK),Inv X pins σ H s->RD X.K H x vx->bV X.K H xs vs->RelV vx u->Vals vs us->HR X.K H G->r3 x xs G R ->
  (∀ v H' d G',Ts H H'->RD X.K H' d v->HR X.K H' G'->R d G'->Q v H')->wpAny (model X.prog X.w) X.A (call (.builtin id) (u :: us)) (EP X pins σ Q) X.xe s
variable {r3:RM3}
theorem a09.of {r:V->List V->Hp->VK->Prop} (h:MtR X id r) (i:∀ (H:Hp) (x:D) (xs:List D) (vx:V) (vs:List V) (G:Gp) (R:dX) (Q:VK),RD X.K H x vx->bV X.K H xs vs->HR X.K H G->r3 x xs G R ->
  (∀ v H' d G',Ts H H'->RD X.K H' d v->HR X.K H' G'->R d G'->Q v H')->r vx vs H fun v H'=>KF X.K H'->Q v H'):a09 X id r3:=fun pins s σ H x xs vx vs u us G R Q I rx rs ru rv g q k =>
 cL (h pins s σ H vx vs u us _ I ru rv (i H x xs vx vs G R Q rx rs g q k)) fun _ _ ⟨v,H',I',r,q'⟩=>⟨v,H',I',r,q' (uV I')⟩
noncomputable def tM3 (T:String) (r:RM3) (to:cF) (t:pK):cF:=fun ρ G R=>to ρ G fun x G1=>a6H T G1 x/\t ρ G1 fun xs G2=>r x xs G2 R
noncomputable def afN (T:String) (r:RM3) (to:cF):cF:=fun ρ G R=>to ρ G fun x G1=>a6H T G1 x/\r x [] G1 R
theorem auJ {o:Expr} {es:List Expr} {t:pK} {apos cpos:Pos} (pa:PlainAttrs T) (slot:Slot T name id) (hty:typeOf (.builtin id)=pure (.type "method_descriptor")) (hm:a09 X id r3) (ho:cM X o to) (ha:PA3 X (e :: es) t)
  (hbase:attributeBase o name X.env (eval o X.env)=eval o X.env:=by rfl)
  (hfew:((backTo cpos (starEach (e :: es) X.env)).all (fun x=>!x.1)&&(backToKw cpos (keywordEach [] X.env)).all (fun x=>x.1.isSome)
   && decide ((e :: es).length+([]:List Keyword).length+(if ([]:List Keyword).isEmpty then 0 else 1) < 30))=true:=by rfl)
  (hline:(apos.endLine == cpos.line)=true:=by rfl) (hs:starEach (e :: es) X.env=(false,eval e X.env) :: starEach es X.env:=by rfl) (hplain:(backTo cpos (starEach es X.env)).any (·.1)=false:=by rfl) :
  cM X (.Call (.Attribute o name apos) (e :: es) [] cpos) (tM3 T r3 to t):=by
 intro pins s σ H Q I h _tk;obtain ⟨ρ,G,R,sr,g,q,kk⟩:=h;refine wpAny_Call_method_late hbase hfew hline rfl (cL (ho pins s σ H (fun vx H1=>Ts H H1/\∃ x G1,RD X.K H1 x vx/\HR X.K H1 G1/\a6H T G1 x/\t ρ G1 fun xs G2=>r3 x xs G2 R) I ⟨ρ,G,_,sr,g,q,fun v H1 x G1 t1 r1 g1 q1=>⟨t1,x,G1,r1,g1,q1⟩⟩) fun v s1 ⟨vx,H1,I1,r1,t1,x,G1,rx,g1,ty,q1⟩=>?_);obtain ⟨h1,h2⟩:=ahD I1 r1 (ahZ g1 rx ty);refine ⟨T,id,pa,slot,hty,h1,h2,?_⟩;have hA:=ha cpos pins s1 σ H1 (fun vs H2=>Ts H1 H2/\∃ xs G2,bV X.K H2 xs vs/\HR X.K H2 G2/\r3 x xs G2 R) I1 ⟨ρ,G1,_,sr.mono t1,g1,q1,fun vs H2 xs G2 t2 r2 g2 q2=>⟨t2,xs,G2,r2,g2,q2⟩⟩;rw [hs] at hA ⊢;refine Calls.callWith_builtin (by show (false || (backTo cpos (starEach es X.env)).any (·.1))=false;rw [hplain] <;> rfl) (Calls.evalArgs_plain ?_);exact cL hA fun us s2 ⟨vs,H2,I2,r2,t2,xs,G2,rs,g2,q2⟩=>hm pins s2 σ H2 x xs vx vs v us G2 R Q I2 (rx.mono t2) rs r1 r2 g2 q2 fun v H' d G' t3=>kk v H' d G' ((t1.trans t2).trans t3)
theorem ai1 {o:Expr} {apos cpos:Pos} (pa:PlainAttrs T) (slot:Slot T name id) (hty:typeOf (.builtin id)=pure (.type "method_descriptor")) (hm:a09 X id r3) (ho:cM X o to)
  (hbase:attributeBase o name X.env (eval o X.env)=eval o X.env:=by rfl) (hline:(apos.endLine == cpos.line)=true:=by rfl):cM X (.Call (.Attribute o name apos) [] [] cpos) (afN T r3 to):=by
 intro pins s σ H Q I h _tk;obtain ⟨ρ,G,R,sr,g,q,kk⟩:=h;refine wpAny_Call_method0_late hbase hline (cL (ho pins s σ H (fun vx H1=>Ts H H1/\∃ x G1,RD X.K H1 x vx/\HR X.K H1 G1/\a6H T G1 x/\r3 x [] G1 R) I ⟨ρ,G,_,sr,g,q,fun v H1 x G1 t1 r1 g1 q1=>⟨t1,x,G1,r1,g1,q1⟩⟩) fun v s1 ⟨vx,H1,I1,r1,t1,x,G1,rx,g1,ty,q1⟩=>?_);obtain ⟨h1,h2⟩:=ahD I1 r1 (ahZ g1 rx ty);exact ⟨T,id,pa,slot,hty,h1,h2,Calls.callWith_builtin rfl (PySem.evalArgs_none (hm pins s1 σ H1 x [] vx [] v [] G1 R Q I1 rx .nil r1 .nil g1 q1 fun v H' d G' t3=>kk v H' d G' (t1.trans t3)))⟩
noncomputable def eN:RM3:=fun x xs G R=>match x,xs with
 | .ref p,[d]=>(match G p with
  | some (.lst ds)=>ds.length < sizeLine/\R .non (aG G p (.lst (ds++[d])))
  | _=>False)
 | _,_=>False
theorem a8W:a09 X "list.append" eN:=a09.of a4I fun H x xs vx vs G R Q rx rs g q k=>by
 cases rx with
 | ref p =>
  cases rs with
  | nil=>exact False.elim q
  | @cons d v ds ws r rr =>
   cases rr with
   | cons _ _=>exact False.elim q
   | nil =>
    have q':(match G p with
     | some (.lst ds)=>ds.length < sizeLine/\R .non (aG G p (.lst (ds++[d])))
     | _=>False):=q
    split at q'
    ·rename_i ds e1;obtain ⟨ys,f1,r1⟩:=g p _ e1;refine ⟨p,ys,v,rfl,rfl,f1,by rw [← r1.length];exact q'.1,fun _=>?_⟩;have tt:Ts H (upd H p (.lst (ys++[v]))) := .turn f1 (fun _ z=>nomatch z) (fun _ _ z=>nomatch z);exact k _ _ _ _ tt .non (g.turn (u := .lst (ds++[d])) tt ⟨_,aH,(r1.append (.cons r .nil)).mono tt⟩) q'.2
    ·exact q'.elim
 | _=>cases rs <;> exact False.elim q
noncomputable def sG:RM3:=fun x xs G R=>match x,xs with
 | .ref p,[.ref b]=>(match G p,G b with
  | some (.lst ds),some (.lst es)=>ds.length+es.length<=sizeLine/\R .non (aG G p (.lst (ds++es)))
  | _,_=>False)
 | _,_=>False
theorem a8X:a09 X "list.extend" sG:=a09.of afB fun H x xs vx vs G R Q rx rs g q k=>by
 cases rx with
 | ref p =>
  cases rs with
  | nil=>exact False.elim q
  | @cons d v ds ws r rr =>
   cases rr with
   | cons _ _=>cases r <;> exact False.elim q
   | nil =>
    cases r with
    | ref b =>
     have q':(match G p,G b with
      | some (.lst ds),some (.lst es)=>ds.length+es.length<=sizeLine/\R .non (aG G p (.lst (ds++es)))
      | _,_=>False):=q
     split at q'
     ·rename_i ds es e1 e2;obtain ⟨ys,f1,r1⟩:=g p _ e1;obtain ⟨zs,f2,r2⟩:=g b _ e2;refine ⟨p,b,ys,zs,rfl,rfl,f1,f2,by rw [← r1.length,← r2.length];exact q'.1,fun _=>?_⟩;have tt:Ts H (upd H p (.lst (ys++zs))) := .turn f1 (fun _ z=>nomatch z) (fun _ _ z=>nomatch z);exact k _ _ _ _ tt .non (g.turn (u := .lst (ds++es)) tt ⟨_,aH,(r1.append r2).mono tt⟩) q'.2
     ·exact q'.elim
    | _=>exact False.elim q
 | _ =>
  cases rs with
  | nil=>exact False.elim q
  | cons r rr=>cases rr <;> cases r <;> exact False.elim q
end
end
end L2
namespace L2
open PySem
theorem nY:bootBuiltins "isinstance" = some (.builtin "isinstance"):=by decide +kernel
theorem a1G:bootBuiltins "len" = some (.builtin "len"):=by decide +kernel
theorem abB:bootBuiltins "min" = some (.builtin "min"):=by decide +kernel
theorem abC:bootBuiltins "max" = some (.builtin "max"):=by decide +kernel
theorem auK:bootBuiltins "sum" = some (.builtin "sum"):=by decide +kernel
theorem afO:bootBuiltins "sorted" = some (.builtin "sorted"):=by decide +kernel
theorem auL:bootBuiltins "int" = some (.type "int"):=by decide +kernel
theorem anL:bootBuiltins "bool" = some (.type "bool"):=by decide +kernel
theorem ai2:bootBuiltins "tuple" = some (.type "tuple"):=by decide +kernel
theorem anM:bootBuiltins "list" = some (.type "list"):=by decide +kernel
end L2
namespace L2
open PySem PySem.Spec PyProof.Rows
variable {cm:Bool}{tl:List (Addr×List V)}{P:Program}{tg e l:Expr}{H1:Hp}{xs:List D}{vs:List V}{z:Str}{lo:Int}{te:cF}{ta:pK}
section
noncomputable def Its (x:Str):It:=⟨fun i _=>i < x.cps.size,fun i H v H'=>H'=H/\∃ c,x.cps[i]?=some c/\v = .str ⟨#[c]⟩,fun i _=>x.cps.size<=i⟩
theorem a4P {w:World} {K:bw} (it:Addr) (x:Str) (t:Tok):Turn cm tl P w K tg (Its x) [it] it (fun i h=>h.IsStrIter it "str_ascii_iterator" x t (min i x.cps.size)) where
 mem:=by simp
 obj:=fun i h st b hb=>by
  have e:b=it:=by simpa using hb
  subst e;obtain ⟨o,e,c,d⟩:=st;exact ⟨o,e,fun v z=>by rw [d] at z;cases z⟩
 keep:=fun i h h' st k=>let ⟨o,e,r⟩:=st;⟨o,k it (by simp) o e,r⟩
 item:=by
  intro X hP hw hK hcm ht i pins s σ H E I hf st hg;subst hP hw hK;obtain ⟨f0,f1,f2,f3,f4,f5⟩:=hf it (by simp);have hi:i < x.cps.size:=hg;rw [qu (jx hi)] at st;refine wpAny_pyNext_ascii_item st (c:=x.cps[i]) (by simp [hi]) fun h' st' kk=>?_;have I1:Inv X pins σ H { s with heap:=h',toks:=s.toks+1 }:=I.turned (fun b o hb e=>(kk.2 b hb).trans e) f0 f1 f3 f4 f5;obtain ⟨o,e1,c1,d1⟩:=id st';refine ⟨_,rfl,a8I (s:={ s with heap:=h',toks:=s.toks+1 }) e1 c1 d1 (by decide) ⟨.str ⟨#[x.cps[i]]⟩,H,I1,⟨_,rfl⟩,⟨rfl,x.cps[i],by simp [hi],rfl⟩,?_,fun b hb=>(hf b hb).1⟩⟩;rw [qu hi];exact st'
 done:=by
  intro X hP hw hK hcm ht i pins s σ H E I hf st hg;subst hP hw hK;obtain ⟨f0,f1,f2,f3,f4,f5⟩:=hf it (by simp);have hi:x.cps.size<=i:=hg;rw [Nat.min_eq_right hi] at st;exact aeY (I.hnd.heap I.hok) st (by simp) fun h' eb=>⟨rfl,I.turned (t':=s.toks) (fun b o hb e=>eb b o hb e) f0 f1 f3 f4 f5⟩
 self:=fun _ _ _ _ _ st h=>wpAny_pyIter_striter_ascii st h
theorem a4Q {w:World} {K:bw} (it:Addr) (x:Str) (t:Tok):Turn cm tl P w K tg (Its x) [it] it (fun i h=>h.IsStrIter it "str_iterator" x t (min i x.cps.size)) where
 mem:=by simp
 obj:=fun i h st b hb=>by
  have e:b=it:=by simpa using hb
  subst e;obtain ⟨o,e,c,d⟩:=st;exact ⟨o,e,fun v z=>by rw [d] at z;cases z⟩
 keep:=fun i h h' st k=>let ⟨o,e,r⟩:=st;⟨o,k it (by simp) o e,r⟩
 item:=by
  intro X hP hw hK hcm ht i pins s σ H E I hf st hg;subst hP hw hK;obtain ⟨f0,f1,f2,f3,f4,f5⟩:=hf it (by simp);have hi:i < x.cps.size:=hg;rw [qu (jx hi)] at st;refine wpAny_pyNext_wide_item st (c:=x.cps[i]) (by simp [hi]) fun h' st' kk=>?_;have I1:Inv X pins σ H { s with heap:=h',toks:=s.toks+1 }:=I.turned (fun b o hb e=>(kk.2 b hb).trans e) f0 f1 f3 f4 f5;obtain ⟨o,e1,c1,d1⟩:=id st';refine ⟨_,rfl,a8I (s:={ s with heap:=h',toks:=s.toks+1 }) e1 c1 d1 (by decide) ⟨.str ⟨#[x.cps[i]]⟩,H,I1,⟨_,rfl⟩,⟨rfl,x.cps[i],by simp [hi],rfl⟩,?_,fun b hb=>(hf b hb).1⟩⟩;rw [qu hi];exact st'
 done:=by
  intro X hP hw hK hcm ht i pins s σ H E I hf st hg;subst hP hw hK;obtain ⟨f0,f1,f2,f3,f4,f5⟩:=hf it (by simp);have hi:x.cps.size<=i:=hg;rw [Nat.min_eq_right hi] at st;exact aeZ (I.hnd.heap I.hok) st (by simp) fun h' eb=>⟨rfl,I.turned (t':=s.toks) (fun b o hb e=>eb b o hb e) f0 f1 f3 f4 f5⟩
 self:=fun _ _ _ _ _ st h=>wpAny_pyIter_striter_wide st h
inductive Src where
 | lst (p:Addr) (xs:List D) | imm (xs:List D) | zip (p q:Addr) (xs ys:List D) | itm (p:Addr) (o:Obj) (kvs:List (DK×D)) | key (p:Addr) (o:Obj) (t:Bool) (kvs:List (DK×D)) | tpl (p:Addr) (xs:List D) | enu (p:Addr) (xs:List D)
noncomputable def enm (xs:List D):List D:=xs.zipIdx.map fun z => .tup [.int z.2,z.1]
noncomputable def prs (xs ys:List D):List D:=(xs.zip ys).map fun z => .tup [z.1,z.2]
noncomputable def Src.items:Src->List D
 | .lst _ xs=>xs
 | .imm xs=>xs
 | .zip _ _ xs ys=>prs xs ys
 | .itm _ _ kvs=>kvs.map fun z => .tup [dkD z.1,z.2]
 | .key _ _ _ kvs=>kvs.map fun z=>dkD z.1
 | .tpl _ xs=>xs
 | .enu _ xs=>enm xs
noncomputable def Src.ok (G:Gp):Src->Prop
 | .lst p xs=>aL G p=some xs
 | .imm _=>True
 | .zip p q xs ys=>aL G p=some xs/\aL G q=some ys
 | .itm p o kvs=>G p=some (.rdc o false kvs)
 | .key p o t kvs=>G p=some (.rdc o t kvs)
 | .tpl p xs=>G p=some (.tpl xs)
 | .enu p xs=>aL G p=some xs
def a8Y (K:Fg) (H1:Hp) (src:Src) (J:It):Prop:=∀ H2 G2,Ts H1 H2->HR K H2 G2->src.ok G2 ->
 (∀ i,i < src.items.length->J.go i H2)/\(∀ i v H',i < src.items.length->J.yld i H2 v H'->Same H2 H'/\∃ d,src.items[i]?=some d/\RD K H' d v)/\J.stop src.items.length H2
abbrev TI3:=aN->Gp->(Src->Gp->Prop)->Prop
noncomputable def upI (K:Fg) (t:TI3):TI:=fun σ H Q=>∃ ρ G R,SR K H ρ σ/\HR K H G/\t ρ G R/\∀ src J H' G',Ts H H'->HR K H' G'->a8Y K H' src J->R src G'->Q J H'
abbrev PI3 (X:Cx) (tg iter:Expr) (t:TI3):Prop:=PI X tg iter (upI X.K t)
noncomputable def signs (z:Str):List D:=z.cps.toList.map fun c => .str ⟨#[c]⟩
noncomputable def nZ (te:cF):TI3:=fun ρ G R=>te ρ G fun x G1=>match x with
 | .ref p=>(match aL G1 p with
  | some xs=>R (.lst p xs) G1
  | none=>False)
 | .tup xs=>R (.imm xs) G1
 | .str z=>R (.imm (signs z)) G1
 | _=>False
theorem a4R {K:Fg} {p:Addr}:a8Y K H1 (.lst p xs) (Itl K p):=fun H2 G2 t g ok=>by
 obtain ⟨vs,hq,rv⟩:=bN g (show aL G2 p=some xs from ok);refine ⟨fun i hi=>?_,fun i v H' hi hy=>?_,⟨vs,hq,yt rv.length.symm⟩⟩
 ·have hi':i < xs.length:=hi;obtain ⟨y,e1,_⟩:=rv.get (dj hi');exact ⟨vs,y,hq,e1⟩
 ·obtain ⟨rfl,hy⟩:=hy;obtain ⟨d,e1,e2⟩:=rv.ahL (hy vs hq);exact ⟨.refl _,d,e1,e2⟩
theorem a8Z {K:Fg} {a:Addr} (hq:qQ K H1 a vs) (rv:bV K H1 xs vs):a8Y K H1 (.imm xs) (Itt K a):=fun H2 G2 t g ok=>by
 have hq2:=t.sqT hq;have rv2:=rv.mono t;refine ⟨fun i hi=>?_,fun i v H' hi hy=>?_,⟨vs,hq2,yt rv.length.symm⟩⟩
 ·have hi':i < xs.length:=hi;obtain ⟨y,e1,_⟩:=rv2.get (dj hi');exact ⟨vs,y,hq2,e1⟩
 ·obtain ⟨rfl,hy⟩:=hy;obtain ⟨d,e1,e2⟩:=rv2.ahL (hy vs hq2);exact ⟨.refl _,d,e1,e2⟩
theorem a1H {K:Fg}:a8Y K H1 (.imm (signs z)) (Its z):=fun H2 G2 t g ok=>by
 have hl:(signs z).length=z.cps.size:=by simp [signs]
 refine ⟨fun i hi=>?_,fun i v H' hi hy=>?_,?_⟩
 ·have:i < (signs z).length:=hi;rw [hl] at this;exact this
 ·obtain ⟨rfl,c,hc,rfl⟩:=hy;exact ⟨.refl _,.str ⟨#[c]⟩,by simp [Src.items,signs,hc],.str _⟩
 ·show z.cps.size<=(signs z).length;rw [hl];exact au _
theorem a90 {K:Fg} {n:Nat}:a8Y K H1 (.imm ((dh n).map fun (i:Nat) => .int (lo+(i:Int)))) (Itr lo n):=fun H2 G2 t g ok=>by
 refine ⟨fun i hi=>?_,fun i v H' hi hy=>?_,?_⟩
 ·have hi':i < n:=by simpa [Src.items] using hi
  exact hi'
 ·obtain ⟨rfl,rfl⟩:=hy;have hi':i < n:=by simpa [Src.items] using hi
  exact ⟨.refl _,.int (lo+i),by simp [Src.items,hi'],.int _⟩
 ·show n<=_;simp [Src.items]
section
variable {X:Cx} {tg:Expr}
theorem PI.imp {t t':TI} (h:PI X tg e t) (k:∀ σ H Q,t' σ H Q->t σ H Q):PI X tg e t':=fun pins s σ H Q I q=>h pins s σ H Q I (k _ _ _ q)
theorem aA2 (hl:cM X l te):PI3 X tg l (nZ te):=by
 intro pins s σ H R I h _tk;obtain ⟨ρ,G,R3,sr,g,q,k⟩:=h
 refine cL (hl pins s σ H (fun v H1=>Ts H H1/\∃ x G1,RD X.K H1 x v/\HR X.K H1 G1/\(match x with
  | .ref p=>(match aL G1 p with
   | some xs=>R3 (.lst p xs) G1
   | none=>False)
  | .tup xs=>R3 (.imm xs) G1
  | .str z=>R3 (.imm (signs z)) G1
  | _=>False)) I ⟨ρ,G,_,sr,g,q,fun v H1 x G1 t1 r g1 q1=>⟨t1,x,G1,r,g1,q1⟩⟩) fun v s1 ⟨x,H1,I1,r1,t1,d,G1,rd,g1,q1⟩=>?_
 cases rd with
 | ref a =>
  have q1':(match aL G1 a with
   | some xs=>R3 (.lst a xs) G1
   | none=>False):=q1
  split at q1'
  ·rename_i xs e;cases r1;obtain ⟨vs,hq,rv⟩:=bN g1 e;obtain ⟨its,rv',p,hz⟩:=I1.list hq;refine wpAny_pyIter_list p.isList ?_;refine ⟨s1.heap.objs.size,[s1.heap.objs.size],_,_,H1,rfl,I1.kept (t':=s1.toks) fun b o e=>ao _ e,a4D a _,⟨_,dw _ rfl,rfl,rfl⟩,fun b hb=>?_,k _ _ H1 G1 t1 g1 a4R q1'⟩;have e:b=s1.heap.objs.size:=by simpa using hb
   subst e;exact I1.yL (au _) (I1.hok.fresh (au _))
  ·exact q1'.elim
 | @tup a vs xs hq rv =>
  cases r1;obtain ⟨its,rv',p,hz⟩:=I1.tuple hq;refine wpAny_pyIter_tuple (show s1.heap.IsTuple a its.toArray from p) ?_;refine ⟨s1.heap.objs.size,[s1.heap.objs.size],_,_,H1,rfl,I1.kept (t':=s1.toks) fun b o e=>ao _ e,a0P a _,⟨_,dw _ rfl,rfl,rfl⟩,fun b hb=>?_,k _ _ H1 G1 t1 g1 (a8Z hq rv) q1⟩;have e:b=s1.heap.objs.size:=by simpa using hb
  subst e;exact I1.yL (au _) (I1.hok.fresh (au _))
 | str z =>
  obtain ⟨t,rfl⟩:=r1;cases ha:z.cps.all (· < 128)
  ·refine wpAny_pyIter_wide ha ?_;refine ⟨s1.heap.objs.size,[s1.heap.objs.size],_,_,H1,rfl,I1.kept (t':=s1.toks) fun b o e=>ao _ e,a4Q _ z t,?_,fun b hb=>?_,k _ _ H1 G1 t1 g1 a1H q1⟩
   ·rw [Nat.zero_min];exact ⟨_,dw _ rfl,rfl,rfl⟩
   ·have e:b=s1.heap.objs.size:=by simpa using hb
    subst e;exact I1.yL (au _) (I1.hok.fresh (au _))
  ·refine wpAny_pyIter_ascii ha ?_;refine ⟨s1.heap.objs.size,[s1.heap.objs.size],_,_,H1,rfl,I1.kept (t':=s1.toks) fun b o e=>ao _ e,a4P _ z t,?_,fun b hb=>?_,k _ _ H1 G1 t1 g1 a1H q1⟩
   ·rw [Nat.zero_min];exact ⟨_,dw _ rfl,rfl,rfl⟩
   ·have e:b=s1.heap.objs.size:=by simpa using hb
    subst e;exact I1.yL (au _) (I1.hok.fresh (au _))
 | _=>exact q1.elim
noncomputable def vQ (lo hi:Int):List D:=(dh (hi - lo).toNat).map fun (i:Nat) => .int (lo+(i:Int))
noncomputable def sH (ta:pK):TI3:=fun ρ G R=>ta ρ G fun xs G1=>match xs with
 | [.int j]=>-(2 ^ 62)<=j/\j < 2 ^ 62/\R (.imm (vQ 0 j)) G1
 | _=>False
theorem auO {a:Expr} {p pos:Pos} (hg:Gl X "range") (hm:X.mg "range" = none) (ha:PA3 X [a] ta) (hs:starEach [a] X.env=[(false,eval a X.env)]):PI3 X tg (.Call (.Name "range" p) [a] [] pos) (sH ta) :=
 PI.imp (a4E hg hm ha hs) fun σ H Q h=>by
 obtain ⟨ρ,G,R,s,g,q,k⟩:=h;refine ⟨ρ,G,_,s,g,q,fun vs H1 ds G1 t1 r g1 h1=>?_⟩;cases r with
 | nil=>exact h1.elim
 | cons r rr =>
  cases rr with
  | cons _ _=>cases r <;> exact False.elim h1
  | nil =>
   cases r with
   | int j =>
    obtain ⟨l1,l2,h1⟩:=h1;refine ⟨j,rfl,l1,l2,k _ _ H1 G1 t1 g1 ?_ h1⟩;unfold vQ;rw [show (j - 0).toNat=j.toNat by omega];exact a90
   | _=>exact False.elim h1
end
end
variable {scope:Scope}{env:Env}
section
noncomputable def lU (cells:List (Str×Addr)):List (Str×NameKind)->List (Str×Addr)->List (Str×Addr)
 | [],cs=>cs
 | (n,k) :: r,cs=>lU cells r (if k = .free then (match cells.lookup n with
  | some a=>(n,a) :: cs
  | none=>cs) else cs)
theorem oO (h:∀ y∈scope.names,y.2 = .free->∃ c,env.cells.lookup y.1=some c):closureFor scope env=pure (lU env.cells scope.names []):=by
 unfold closureFor
 have all:∀ (l:List (Str×NameKind)) (cs:List (Str×Addr)),(∀ y∈l,y.2 = .free->∃ c,env.cells.lookup y.1=some c) ->
   (forIn l cs fun (x:Str×NameKind) (r:List (Str×Addr))=>(if (x.2 == NameKind.free)=true then do
    let a ← cellOf env x.1
    pure (ForInStep.yield ((x.1,a) :: r)) else pure (ForInStep.yield r):Sem (ForInStep (List (Str×Addr)))))=(pure (lU env.cells l cs):Sem (List (Str×Addr))):=by
  intro l
  induction l with
  | nil=>intro cs _;rfl
  | cons y r ih =>
   intro cs hl;obtain ⟨n,k⟩:=y;rw [xu];by_cases hk:k = .free
   ·subst hk;obtain ⟨c,hc⟩:=hl (n,.free) (by simp) rfl;have e:cellOf env n=pure c:=by unfold cellOf;rw [hc]
    simp only [beq_self_eq_true,if_true,e];show (forIn r ((n,c) :: cs) _:Sem _)=_;rw [ih _ fun y hy=>hl y (by simp [hy])];simp only [lU,if_true,hc]
   ·have hk':(k == NameKind.free)=false:=by simpa using hk
    simp only [hk',fj,if_false];show (forIn r cs _:Sem _)=_;rw [ih _ fun y hy=>hl y (by simp [hy])];simp only [lU,if_neg hk]
 have z:=all scope.names [] h;exact congrArg (fun m=>m >>= fun cs=>pure cs) z
theorem fC {cells:List (Str×Addr)}:∀ {l:List (Str×NameKind)} {cs:List (Str×Addr)} {y:Str} {c:Addr},(lU cells l cs).lookup y=some c->(∀ c,cs.lookup y=some c->cells.lookup y=some c)->cells.lookup y=some c
 | [],cs,y,c,h,k=>k c h
 | (n,kd) :: r,cs,y,c,h,k=>by
  unfold lU at h;refine fC h fun c' h'=>?_;by_cases hk:kd = .free
  ·rw [if_pos hk] at h';split at h'
   ·rename_i a ha;rw [jg] at h';split at h'
    ·rename_i e;have e':y=n:=beq_iff_eq.mp e;subst e';rw [ha];exact h'
    ·exact k c' h'
   ·exact k c' h'
  ·rw [if_neg hk] at h';exact k c' h'
theorem a1I {cells:List (Str×Addr)}:∀ {l:List (Str×NameKind)} {cs:List (Str×Addr)} {y:Str},(∃ c,cs.lookup y=some c)->∃ c,(lU cells l cs).lookup y=some c
 | [],cs,y,h=>h
 | (n,kd) :: r,cs,y,h=>by
  unfold lU;refine a1I ?_;by_cases hk:kd = .free
  ·rw [if_pos hk];split
   ·rw [jg];split
    ·exact ⟨_,rfl⟩
    ·exact h
   ·exact h
  ·rw [if_neg hk];exact h
theorem yU {cells:List (Str×Addr)} {y:Str} {c:Addr} (hc:cells.lookup y=some c):∀ {l:List (Str×NameKind)} {cs:List (Str×Addr)},(y,NameKind.free)∈l->∃ c,(lU cells l cs).lookup y=some c
 | [],cs,h=>by simp at h
 | (n,kd) :: r,cs,h=>by
  unfold lU;rcases jc.mp h with e | h
  ·cases e;refine a1I ?_;rw [if_pos rfl,hc];simp
  ·exact yU hc h
theorem mem_of_lookup {α:Type}:∀ {l:List (Str×α)} {y:Str} {k:α},l.lookup y=some k->(y,k)∈l
 | [],_,_,h=>by simp at h
 | (n,kd) :: r,y,k,h=>by
  rw [jg] at h;split at h
  ·rename_i e;have e':y=n:=beq_iff_eq.mp e;cases h;subst e';simp
  ·exact iu _ (mem_of_lookup h)
structure pR (X:Cx) (xs:List Str) (scope:Scope):Prop where
 kind:scope.kind = .function
 abD:∀ y∈scope.names,y.2 ≠ .cell
 locs:∀ y∈scope.names,y.2 = .local->scope.names.lookup y.1=some .local
 var:∀ x∈xs,scope.names.lookup x=some .local
 frees:∀ y∈scope.names,y.2 = .free->X.env.kindOf y.1=some .cell∨X.env.kindOf y.1=some .free
 out:∀ x∈xs,x ∉ X.N
 nd:xs.Nodup
 only:∀ y∈X.N,scope.names.lookup y≠some .local
noncomputable abbrev fM (X:Cx) (xs:List Str) (scope:Scope) (C:Addr) (s₃:Shared) (H₃:Hp) (fp:List Addr) (pins:List (Addr×Obj)):Cx :=
 { X with N:=xs++X.N,s₀:=s₃,H₀:=H₃,env:=compEnvC scope (lU X.env.cells scope.names []) C X.env,outer:=X.stack,stack:=X.stack,ex:=fp,fn:=fun _=>false,pn:=X.pn++pins,xe:=fun _ _=>False,need:=false }
noncomputable def nn (xs:List Str) (σ:St):St:=xs.map (fun _=>none)++σ
theorem ai3 {xs:List Str} {σ:St} {i:Nat} {v:V} (h:(nn xs σ)[i]?=some (some v)):∃ j,i=xs.length+j/\σ[j]?=some (some v):=by
 unfold nn at h;by_cases c:i < xs.length
 ·rw [ug (by simpa using c)] at h;simp at h
 ·rw [nq (by simpa using c)] at h;exact ⟨i - xs.length,by omega,by simpa using h⟩
theorem ad3 {α:Type} {xs ys:List α} {j:Nat}:(xs++ys)[xs.length+j]?=ys[j]?:=by
 rw [nq (by omega)];congr 1;omega
theorem d7 {env:Env} {y:Str} {k:NameKind}:∀ {names:List (Str×NameKind)},(names.map fun (n,k)=>if (k == .free&&env.scope.kind == .function&&env.kindOf n == some .cell) then (n,.cell) else (n,k)).lookup y=some k ->
  ∃ k',names.lookup y=some k'/\(k=k'∨(k = .cell/\k' = .free))
 | [],h=>by simp at h
 | (n,kd) :: r,h=>by
  rw [jm] at h;by_cases hc:(kd == .free&&env.scope.kind == .function&&env.kindOf n == some .cell)=true
  ·have h':List.lookup y ((n,NameKind.cell) :: (r.map fun (n,k)=>if (k == .free&&env.scope.kind == .function&&env.kindOf n == some .cell) then (n,.cell) else (n,k)))=some k:=by
    simp only [hc,if_true] at h;exact h
   rw [jg] at h' ⊢;cases hx:y == n with
   | true =>
    rw [hx] at h';cases h';refine ⟨kd,rfl,.inr ⟨rfl,?_⟩⟩;simp only [ak,beq_iff_eq] at hc;exact hc.1.1
   | false =>
    rw [hx] at h';exact d7 h'
  ·have h':List.lookup y ((n,kd) :: (r.map fun (n,k)=>if (k == .free&&env.scope.kind == .function&&env.kindOf n == some .cell) then (n,.cell) else (n,k)))=some k:=by
    simp only [hc,if_false] at h;exact h
   rw [jg] at h' ⊢;cases hx:y == n with
   | true =>
    rw [hx] at h';cases h';exact ⟨_,rfl,.inl rfl⟩
   | false =>
    rw [hx] at h';exact d7 h'
end
variable {tk:Nat}{H':Hp}{s':Shared}{h':Heap}
section
section
variable {X:Cx} {xs:List Str} {scope:Scope} {C:Addr} {pins:List (Addr×Obj)} {σ:St} {H H₃:Hp} {s s₃:Shared} {fp:List Addr}
theorem a6K (I:Inv X pins σ H s) {b:Addr} (hb:b∈frs X.stack):b=X.env.locals∨b∈X.fs:=jc.mp (I.aaS b hb)
theorem auP (I:Inv X pins σ H s) (c:pR X xs scope) (hC:s.heap.objs.size<=C) (hf:∀ b∈fp,j8 X pins H b/\b < s.heap.objs.size):(fM X xs scope C s H fp pins).Ok where
 mod:=I.ok.mod
 kind:=c.kind
 glob:=I.ok.glob
 blt:=I.ok.blt
 above:=hC
 inj:=fun y z d h1 h2=>I.ok.inj y z d (fC h1 fun _ h=>by simp at h) (fC h2 fun _ h=>by simp at h)
 has:=fun y h=>by
  have hy:(y,NameKind.free)∈scope.names:=by
   rcases h with h | h
   ·obtain ⟨k',e,z⟩:=d7 (env:=X.env) (names:=scope.names) h;rcases z with z | ⟨_,z⟩
    ·subst z;exact absurd rfl (c.abD _ (mem_of_lookup e))
    ·subst z;exact mem_of_lookup e
   ·obtain ⟨k',e,z⟩:=d7 (env:=X.env) (names:=scope.names) h;rcases z with z | ⟨z,_⟩
    ·subst z;exact mem_of_lookup e
    ·cases z
  obtain ⟨d,hd⟩:=I.ok.has y (c.frees _ hy rfl);exact yU hd hy
 cab:=fun _ _ h=>absurd h (by simp)
 hd:=I.ok.hd
 frames:=I.ok.frames
 stk := .inl rfl
 exf:=fun b hb=>by
  obtain ⟨⟨f0,f1,f2,f3,f4,f5⟩,lt⟩:=hf b hb;exact ⟨gk (cu lt hC),fun y d h=>f4 y d (fC h fun _ h=>by simp at h)⟩
 bs:=fun b o e=>I.bs b o e
 bsz:=ju I.ok.bsz I.sz
 a3E:=fun b o e hb=>by
  obtain ⟨⟨f0,f1,f2,f3,f4,f5⟩,lt⟩:=hf b hb;rcases f3 with z | z
  ·exact I.ok.a3E b o e z
  ·exact absurd (cu (cg e) (ju I.ok.bsz z)) (jq _)
 a5R:=fun b hb hs=>by
  obtain ⟨⟨f0,f1,f2,f3,f4,f5⟩,lt⟩:=hf b hb;rcases a6K I hs with z | z
  ·exact f1 z
  ·exact f2 z
 nU:=I.stack
 frf:=fun b hb=>I.a5S b hb
theorem auQ (I:Inv X pins σ H s) (c:pR X xs scope) (hC:s.heap.objs.size=C) (hf:∀ b∈fp,j8 X pins H b/\b < s.heap.objs.size) {h₁:Heap} {m:Str->Option Value} (hn:h₁.Ns C m) (hk:∀ b o,s.heap.get? b=some o->h₁.get? b=some o) :
  Inv (fM X xs scope C s H fp pins) [] (nn xs σ) H { s with heap:=h₁,toks:=tk }:=by
 have lt:∀ b o,s.heap.get? b=some o->b≠C:=fun b o e=>by rw [← hC];exact gk (cg e)
 refine ⟨auP I c (yt hC) hf,rfl,I.bare,Un.kept hk,⟨m,hn,fun i y v e1 e2 e3=>?_⟩,fun y d e=>?_,I.hok.fresh (yt hC),fun y d e=>I.jG y d (fC e fun _ h=>by simp at h),fun p hp=>?_,I.hok.kept hk,by simp [nn,I.len],I.hnd,I.tup⟩
 ·obtain ⟨i,rfl,e2'⟩:=ai3 e2
  ·have e1':X.N[i]?=some y:=ad3.symm.trans e1;have hy:y∈X.N:=iw e1'
   have free:(y,NameKind.free)∈scope.names:=by
    have e3':∃ k,(relabel scope X.env).names.lookup y=some k/\(k = .local∨k = .cell∨k = .free):=by
     rcases e3 with h | h | h
     ·exact ⟨_,h,.inl rfl⟩
     ·exact ⟨_,h,.inr (.inl rfl)⟩
     ·exact ⟨_,h,.inr (.inr rfl)⟩
    obtain ⟨k,h,hk⟩:=e3';obtain ⟨k',e,z⟩:=d7 (env:=X.env) (names:=scope.names) h;rcases z with z | ⟨_,z⟩
    ·subst z;rcases hk with rfl | rfl | rfl
     ·exact absurd e (c.only y hy)
     ·exact absurd rfl (c.abD _ (mem_of_lookup e))
     ·exact mem_of_lookup e
    ·subst z;exact mem_of_lookup e
   have hkd:=c.frees _ free rfl;obtain ⟨m',hn',hlo⟩:=I.loc;have vis:Vis X.env.scope y:=hkd.elim (fun z => .inr (.inl z)) fun z => .inr (.inr z);obtain ⟨u,r,l⟩:=hlo i y v e1' e2' vis;refine ⟨u,r,.inr ⟨?_,?_⟩⟩
   ·rcases e3 with h | h | h
    ·obtain ⟨k',e,z⟩:=d7 (env:=X.env) (names:=scope.names) h;rcases z with z | ⟨z,_⟩
     ·subst z;exact absurd e (c.only y hy)
     ·cases z
    ·exact .inl h
    ·exact .inr h
   ·rcases l with ⟨hl,_⟩ | ⟨_,d,hd,hcell⟩
    ·rcases hkd with z | z
     ·rw [z] at hl;cases hl
     ·rw [z] at hl;cases hl
    ·obtain ⟨d',hd'⟩:=yU (cells:=X.env.cells) (l:=scope.names) (cs:=[]) hd free;have:=fC hd' fun _ h=>by simp at h
     rw [hd] at this;cases this;refine ⟨d,hd',?_⟩;obtain ⟨o,ho,hod⟩:=hcell;exact ⟨o,hk _ _ ho,hod⟩
 ·obtain ⟨w,o,ho,hod⟩:=I.cell y d (fC e fun _ h=>by simp at h);exact ⟨w,o,hk _ _ ho,hod⟩
 ·have hp':p∈X.pn++pins:=by simpa using hp
  obtain ⟨e,n,ne,nf,d⟩:=I.pin p hp';refine ⟨hk _ _ e,n,lt _ _ e,fun z=>?_,d⟩;rcases a6K I z with z | z
  ·exact ne z
  ·exact nf z
theorem anN (I:Inv X pins σ H s) (hC:s.heap.objs.size=C) (hf:∀ b∈fp,j8 X pins H b/\b < s.heap.objs.size) {zJ:List (Addr×Obj)} {σ':St} (J:Inv (fM X xs scope C s H fp pins) zJ σ' H' s') (hs:nu C s'.heap h') :
  Inv X pins σ H' { s' with heap:=h',toks:=tk }:=by
 have ne:∀ b o,s.heap.get? b=some o->b≠C:=fun b o e=>by rw [← hC];exact gk (cg e)
 have u:Un (frs X.stack) fp H H' s.heap s'.heap:=J.base;have hfree:H' C=none:=J.free;refine I.call' (ch:=fp) J.os ⟨fun b o e n hb hx=>?_,fun b o e n hb hx=>?_,u.free,fun b o e hx=>?_,u.tups,u.eZ,u.rD⟩ (fun b o e=>?_) J.bare (fun b hb=>?_)
 ·exact (hs.2 b (ne b o e)).trans (u.keep b o e n hb hx)
 ·obtain ⟨sl,e1⟩:=u.slot b o e n hb hx;exact ⟨sl,(hs.2 b (ne b o e)).trans e1⟩
 ·obtain ⟨o',e1⟩:=u.there b o e hx;exact ⟨o',(hs.2 b (ne b o e)).trans e1⟩
 ·refine (J.hok b o e).stay (fun d w hd q=>(hs.2 d ?_).trans q) (fun _ q=>q) fun _ _ q=>q;rintro rfl;rcases hd with z | z
  ·rw [z] at hfree;rw [e] at hfree;cases hfree
  ·rw [hfree] at z;cases z
 ·obtain ⟨⟨f0,f1,f2,f3,f4,f5⟩,lt⟩:=hf b hb;exact ⟨f3,f1,f4,f5⟩
end
end
variable {X:Cx}{pins:List (Addr×Obj)}{C it:Addr}{R:dX}{ρ:aN}{fp:List Addr}{ds:List D}
section
noncomputable def yV:vM:=fun _ G R=>R true G
noncomputable def afP (X:Cx) (ifs:List Expr) (tc:vM):Prop :=
 ∀ (pins:List (Addr×Obj)) (s:Shared) (σ:St) (H:Hp) (Q:Bool->Hp->Prop),Inv X pins σ H s->upT X.K tc σ H Q->[Tk X.need s] ->
  wpAny (model X.prog X.w) X.A (forIn ifs true fun c r=>if r=true then do let ok ← isTrue c X.env (eval c X.env);pure (ForInStep.yield ok) else pure (ForInStep.yield r)) (TP X pins σ Q) X.xe s
theorem anO:afP X [] yV:=fun pins s σ H Q I h=>by
 obtain ⟨ρ,G,R,sr,g,q,k⟩:=h;exact bh ⟨H,I,k true H G (.refl H) g q⟩
theorem anP {c:Expr} {tc:vM} (hc:PT3 X c tc):afP X [c] tc:=fun pins s σ H Q I h=>by
 rw [xu];simp only [if_true];refine aj (aj (cL (hc pins s σ H Q I h) fun b s1 q=>?_));intro ay6;exact bh (bh q)
section
variable {X:Cx} {x:Str} {xs:List Str} {tgt:Expr} {dv:D->Option (List D)} {scope:Scope} {iter elt:Expr} {ifs:List Expr} {px pos:Pos} {ti:TI3} {tc:vM} {te:cF}
structure anQ (X:Cx) (pins:List (Addr×Obj)) (H':Hp) (C:Addr) (h:Heap):Prop where
 ns:∃ m,h.Ns C m
 free:H' C=none
 loc:C≠X.env.locals
 young:X.s₀.heap.objs.size<=C
 cells:∀ y d,X.env.cells.lookup y=some d->d≠C
 pins:∀ p∈X.pn++pins,p.1≠C
theorem anQ.turn {σ:St} {s:Shared} (o:anQ X pins H' C s.heap) (I:Inv X pins σ H' s) (hs:nu C s.heap h'):Inv X pins σ H' { s with heap:=h' } :=
 I.turned (t':=s.toks) (fun b ob hb e=>(hs.2 b hb).trans e) o.free o.loc (.inr o.young) o.cells o.pins
def ai4 (Y:Cx) (tgt:Expr) (xs:List Str) (dv:D->Option (List D)) (σ:St):Prop:=∀ (pins:List (Addr×Obj)) (s:Shared) (H:Hp) (v:V) (u:Value) (d:D) (ds:List D),Inv Y pins (nn xs σ) H s->RelV v u->RD Y.K H d v->dv d=some ds ->
 wpAny (model Y.prog Y.w) Y.A (assign tgt Y.env u) (fun _ s'=>∃ vs,bV Y.K H ds vs/\Inv Y pins (vs.map some++σ) H s') Y.xe s
theorem ai5 {K:Fg} {H:Hp} {ρ:aN} {σ:St} (s:SR K H ρ σ):∀ {ds:List D} {vs:List V},bV K H ds vs->SR K H (ds.map some++ρ) (vs.map some++σ)
 | _,_,.nil=>s
 | _,_,.cons h r => .some h (ai5 s r)
theorem ai6 {prog:Program} {w:World} {A:Around} {R:Result->Shared->Prop} {s:Shared} {elt target iter:Expr} {ifs:List Expr} {pos:Pos} {it acc:Value} (J:Nat->Shared->Prop)
  (turn:∀ n s,J n s->wpAny (model prog w) A (pyNext it) (fun r s1=>match r with
   | none=>R (.ok .next) s1
   | some v=>wpAny (model prog w) A (letOwnedTupleGo target it v) (fun _ s1'=>wpAny (model prog w) A (assign target env v) (fun _ s2 =>
     wpAny (model prog w) A (forIn ifs true fun c r=>if r=true then do let ok ← isTrue c env (eval c env);pure (ForInStep.yield ok) else pure (ForInStep.yield r)) (fun ok s3 =>
      if ok=true then wpAny (model prog w) A (eval elt env) (fun x s4 =>
       wpAny (model prog w) A (call (.builtin "list.append") [acc,x]) (fun _ s5=>∃ m,m < n/\J m s5) (notedBy (model prog w) A env fun e s'=>R (.error e) s') s4) (notedBy (model prog w) A env fun e s'=>R (.error e) s') s3
      else ∃ m,m < n/\J m s3) (notedBy (model prog w) A env fun e s'=>R (.error e) s') s2) (notedBy (model prog w) A env fun e s'=>R (.error e) s') s1') (notedBy (model prog w) A env fun e s'=>R (.error e) s') s1) (notedBy (model prog w) A env fun e s'=>R (.error e) s') s)
  (n:Nat) (h:J n s):codeAny (model prog w) A (.compLoop (.ListComp elt [⟨target,iter,ifs,0⟩] scope pos) 0 it acc env) R s:=by
 refine codeAny_loop rfl J (fun n s hJ=>?_) n h;show wpAny _ A ((compTurn (.ListComp elt [⟨target,iter,ifs,0⟩] scope pos) 0 it acc env).onRaise (fun z=>do noteFrame z env;theTreesLotGoes z)) _ _ s;refine wpAny_noted ?_;rw [compTurn_list];refine aj (wpAny_standAt (aj (wpAny_mono (turn n s hJ) (fun r s1 h1=>?_) fun _ _ z=>z)));cases r with
 | none=>exact bh h1
 | some v =>
  refine aj (wpAny_mono h1 (fun _ s1' h1'=>?_) fun _ _ z=>z);refine aj (wpAny_mono h1' (fun _ s2 h2=>aj (wpAny_mono h2 (fun ok s3 h3=>?_) fun _ _ z=>z)) fun _ _ z=>z);cases ok with
  | false=>exact bh ⟨rfl,h3⟩
  | true=>exact aj (aj (wpAny_mono h3 (fun x s4 h4=>aj (wpAny_mono h4 (fun _ s5 h5=>bh (bh ⟨rfl,h5⟩)) fun _ _ z=>z)) fun _ _ z=>z))
theorem a4S (c:pR X xs scope) (hT:∀ C s H fp pins σ,ai4 (fM X xs scope C s H fp pins) tgt xs dv σ) (hdv:∀ d ds,dv d=some ds->ds.length=xs.length) (hc:∀ C s H fp pins,afP (fM X xs scope C s H fp pins) ifs tc) (he:∀ C s H fp pins,cM (fM X xs scope C s H fp pins) elt te) {s2:Shared} {σ:St} {H H2:Hp} {G1:Gp} {tn:Nat->Heap->Prop} {J:It} {src:Src} {RR:Value->Addr->Result->Shared->Prop} (sr:SR X.K H ρ σ) (I2:Inv X pins σ H2 s2) (T:Turn X.calm X.tp X.prog X.w X.K tgt J fp it tn) (st2:tn 0 s2.heap) (f2:∀ b∈fp,j8 X pins H2 b) (t1:Ts H H2) (g1:HR X.K H2 G1) (sj:a8Y X.K H2 src J)
  (hlen:src.items.length < sizeLine) (body:∀ p,G1 p=none->∃ P:Nat->List D->Gp->Prop,P 0 [] (aG G1 p (.lst [])) /\
   (∀ k ds G,k<=src.items.length->P k ds G->src.ok G/\G p=some (.lst ds)/\ds.length<=k) /\
   (∀ k d ds G,src.items[k]?=some d->P k ds G->∃ ys,dv d=some ys/\tc (ys.map some++ρ) G fun b G2=>if b=true then te (ys.map some++ρ) G2 fun y G3=>G3 p=some (.lst ds)/\P (k+1) (ds++[y]) (aG G3 p (.lst (ds++[y]))) else P (k+1) ds G2) /\
   ∀ ds G,P src.items.length ds G->∃ G0,Le G0 G/\R (.ref p) G0)
  (hRR:∀ Da C s5 H' G0,Inv X pins σ H' s5->anQ X pins H' C s5.heap->Ts H H'->HR X.K H' G0->R (.ref Da) G0->RR (.ref Da) C (.ok .next) s5) :
  wpAny (model X.prog X.w) X.A (newList []) (fun acc s₃=>wpAny (model X.prog X.w) X.A (newFunctionEnv scope X.env.globals (lU X.env.cells scope.names []) [] X.env.qual none .none (some X.env)) (fun cenv s₄ =>
   codeAny (model X.prog X.w) X.A (.compStart (.ListComp elt [⟨tgt,iter,ifs,0⟩] scope pos) 0 (.ref it) acc { cenv with scope:=relabel scope X.env }) (RR acc cenv.locals) s₄) X.xe s₃) X.xe s2:=by
 refine wpAny_newObj_type ?_;have I3:=I2.atG (its:=[]) (ys:=[]) (t':=s2.toks) .nil (by decide);have hD:H2 s2.heap.objs.size=none:=I2.fresh;have kf:=uV I3;have gD:G1 s2.heap.objs.size=none:=lR g1 hD kf;obtain ⟨P,p0,pok,pst,pend⟩:=body _ gD
 have ltD:∀ b∈fp,b < s2.heap.objs.size:=fun b hb=>by
  obtain ⟨o,e,_⟩:=T.obj 0 _ st2 b hb;exact cg e
 have hsz3:(s2.heap.push { cls := .type "list",data := .seq ([]:List Value).toArray }).objs.size=s2.heap.objs.size+1:=vp ..
 have hf3:∀ b∈fp,j8 X pins (upd H2 s2.heap.objs.size (.lst [])) b/\b < (s2.heap.push { cls := .type "list",data := .seq ([]:List Value).toArray }).objs.size:=fun b hb=>by
  obtain ⟨f0,fr⟩:=f2 b hb;exact ⟨⟨by rw [aQ (gk (ltD b hb))];exact f0,fr⟩,by rw [hsz3];exact vm (ltD b hb)⟩
 refine wpAny_newFunctionEnv c.abD (by intro y hy;simp at hy) (fun h₁ hns₁ hsb₁=>?_) c.kind;dsimp only at hns₁ hsb₁ ⊢;generalize hH3:s2.heap.push { cls := .type "list",data := .seq ([]:List Value).toArray }=h3 at *;generalize hDe:s2.heap.objs.size=Da at *;have aqO:∀ b o,h3.get? b=some o->h₁.get? b=some o:=fun b o e=>hsb₁.extBut b o (gk (cg e)) (ao _ e)
 show codeAny (model X.prog X.w) X.A (Code.compStart (elt.ListComp [{ target:=tgt,iter:=iter,ifs:=ifs,is_async:=0 }] scope pos) 0 (Value.ref it) (Value.ref Da) (compEnvC scope (lU X.env.cells scope.names []) h3.objs.size X.env))
  (RR (.ref Da) h3.objs.size) { s2 with heap:=h₁,toks:=s2.toks+([]:List (Str×Value)).length }
 have J0:=auQ (tk:=s2.toks+([]:List (Str×Value)).length) I3 c rfl hf3 hns₁ aqO;have st1:tn 0 h₁:=T.keep _ _ _ st2 fun b hb o e=>aqO b o (by rw [← hH3];exact ao _ e);have g0:HR X.K (upd H2 Da (.lst [])) (aG G1 Da (.lst [])):=g1.put (u := .lst []) hD ⟨[],aH,.nil⟩;have ts0:Ts H2 (upd H2 Da (.lst [])) := .same (bC hD)
 have loop:∀ s₄:Shared,Inv (fM X xs scope h3.objs.size { s2 with heap:=h3,toks:=s2.toks } (upd H2 Da (.lst [])) fp pins) [] (nn xs σ) (upd H2 Da (.lst [])) s₄->tn 0 s₄.heap ->
   codeAny (model X.prog X.w) X.A (.compLoop (.ListComp elt [⟨tgt,iter,ifs,0⟩] scope pos) 0 (.ref it) (.ref Da) (compEnvC scope (lU X.env.cells scope.names []) h3.objs.size X.env)) (RR (.ref Da) h3.objs.size) s₄:=by
  intro s₄ J4 st4
  refine ai6 (fun n s'=>∃ i ds H' G',Inv (fM X xs scope h3.objs.size { s2 with heap:=h3,toks:=s2.toks } (upd H2 Da (.lst [])) fp pins) [] (nn xs σ) H' s'/\tn i s'.heap/\(∀ b∈fp,H' b=none)/\HR X.K H' G'/\P i ds G'/\i<=src.items.length/\n=src.items.length - i/\Ts H2 H') (fun n s' hI=>?_) src.items.length
   ⟨0,[],_,_,J4,st4,fun b hb=>(hf3 b hb).1.1,g0,p0,je _,by simp,ts0⟩
  obtain ⟨i,ds,H',G',J,st,fr,g',p,hi',rfl,ts⟩:=hI;obtain ⟨ok,hDl,hdl⟩:=pok i ds G' hi' p;obtain ⟨sgo,aER,aA4⟩:=sj H' G' ts g' ok
  have fpX:∀ {H':Hp},(∀ b∈fp,H' b=none)->∀ b∈fp,j8 (fM X xs scope h3.objs.size { s2 with heap:=h3,toks:=s2.toks } (upd H2 Da (.lst [])) fp pins) [] H' b:=fun hn b hb=>by
   obtain ⟨⟨f0,f1,f2',f3,f4,f5⟩,lt⟩:=hf3 b hb;refine ⟨hn b hb,gk lt,fun hs=>?_,.inl hb,fun y d e=>f4 y d (fC e fun _ h=>by simp at h),fun p' hp'=>f5 p' (by simpa using hp')⟩;rcases a6K I3 hs with z | z
   ·exact f1 z
   ·exact f2' z
  by_cases hlt:i < src.items.length
  ·refine wpAny_mono (T.item (fM X xs scope h3.objs.size { s2 with heap:=h3,toks:=s2.toks } (upd H2 Da (.lst [])) fp pins) rfl rfl rfl (fun h=>h) (fun _ h=>h) i [] s' (nn xs σ) H' (fun _ _=>False) J (fpX fr) st (sgo i hlt)) (fun r s5 ⟨u,hr,h5⟩=>?_) fun _ _ z=>z.elim;subst hr
   obtain ⟨d0,ys,hd0,ey,aET⟩:∃ d ys,src.items[i]?=some d/\dv d=some ys/\tc (ys.map some++ρ) G' fun b G2=>if b=true then te (ys.map some++ρ) G2 fun y G3=>G3 Da=some (.lst ds)/\P (i+1) (ds++[y]) (aG G3 Da (.lst (ds++[y]))) else P (i+1) ds G2:=by
    have hd:src.items[i]?=some src.items[i]:=dj hlt;obtain ⟨ys,e,z⟩:=pst i _ ds G' hd p;exact ⟨_,ys,hd,e,z⟩
   show wpAny _ _ (letOwnedTupleGo tgt (.ref it) u) _ _ s5;refine wpAny_mono h5 (fun _ s6 ⟨vx,H6,I6,r6,y6,st6,fr6⟩=>?_) fun _ _ z=>z.elim;obtain ⟨sm,d,hd,rd⟩:=aER i vx H6 hlt y6;have g':=g'.same sm;have ts:=ts.trans (.same sm);obtain rfl:d0=d:=ig.inj (hd0.symm.trans hd);have I6':=I6.pinned (fpX fr6) (T.obj _ _ st6);refine wpAny_mono (hT _ _ _ _ _ _ _ s6 H6 vx u _ _ I6' r6 rd ey) (fun _ s7 ⟨vs,rvs,I7⟩=>?_) fun _ _ z=>z.elim;have lv:vs.length=xs.length:=by rw [← rvs.length];exact hdv _ _ ey
   have ai7:∀ {s'':Shared} {σ'':St} {H'':Hp},Inv (fM X xs scope h3.objs.size { s2 with heap:=h3,toks:=s2.toks } (upd H2 Da (.lst [])) fp pins) ([]++vI fp s6.heap) σ'' H'' s''->tn (i+1) s''.heap/\∀ b∈fp,H'' b=none:=fun I''=>by
    refine ⟨T.keep _ _ _ st6 fun b hb o e=>(I''.pin (b,o) (jf _ (jf _ (lO hb e)))).1,fun b hb=>?_⟩;obtain ⟨o,e,_⟩:=T.obj _ _ st6 b hb;exact (I''.pin (b,o) (jf _ (jf _ (lO hb e)))).2.1
   have down:∀ {s'':Shared} {H'':Hp},Inv (fM X xs scope h3.objs.size { s2 with heap:=h3,toks:=s2.toks } (upd H2 Da (.lst [])) fp pins) ([]++vI fp s6.heap) (vs.map some++σ) H'' s''->Inv (fM X xs scope h3.objs.size { s2 with heap:=h3,toks:=s2.toks } (upd H2 Da (.lst [])) fp pins) [] (nn xs σ) H'' s'':=fun I'' =>
    I''.rH.weak (by simp [nn,lv]) fun j v e=>by
     obtain ⟨j',rfl,e'⟩:=ai3 e;rw [← lv,show vs.length=(vs.map some).length by simp,ad3];exact e'
   have sr7:SR X.K H6 (ys.map some++ρ) (vs.map some++σ):=ai5 (sr.mono (t1.trans ts)) rvs
   refine wpAny_mono (hc _ _ _ _ _ _ s7 (vs.map some++σ) H6 (fun b H8=>Ts H6 H8/\∃ G8,HR X.K H8 G8/\(if b=true then te (ys.map some++ρ) G8 fun y G3=>G3 Da=some (.lst ds)/\P (i+1) (ds++[y]) (aG G3 Da (.lst (ds++[y]))) else P (i+1) ds G8)) I7
    ⟨ys.map some++ρ,G',_,sr7,g',aET,fun b H8 G8 t8 g8 q8=>⟨t8,G8,g8,q8⟩⟩) (fun b s8 ⟨H8,I8,t8,G8,g8,q8⟩=>?_) fun _ _ z=>z.elim
   cases b with
   | false =>
    rw [if_neg (by decide)];have q8':P (i+1) ds G8:=by simpa using q8
    obtain ⟨a1,a2⟩:=ai7 I8;exact ⟨src.items.length - (i+1),by omega,i+1,ds,H8,G8,down I8,a1,a2,g8,q8',hlt,rfl,ts.trans t8⟩
   | true =>
    rw [if_pos rfl];have q8':te (ys.map some++ρ) G8 fun y G3=>G3 Da=some (.lst ds)/\P (i+1) (ds++[y]) (aG G3 Da (.lst (ds++[y]))):=by simpa using q8
    refine wpAny_mono (he _ _ _ _ _ _ s8 (vs.map some++σ) H8 (fun vy H9=>Ts H8 H9/\∃ y G9,RD X.K H9 y vy/\HR X.K H9 G9/\G9 Da=some (.lst ds)/\P (i+1) (ds++[y]) (aG G9 Da (.lst (ds++[y])))) I8 ⟨ys.map some++ρ,G8,_,sr7.mono t8,g8,q8',fun vy H9 y G9 t9 r9 g9 q9=>⟨t9,y,G9,r9,g9,q9⟩⟩) (fun uy s9 ⟨vy,H9,I9,ry,t9,y,G9,ryd,g9,hG9,q9⟩=>?_) fun _ _ z=>z.elim;obtain ⟨ws,hH9,rws⟩:=g9 Da _ hG9;have aA6:ws.length < sizeLine:=by rw [← rws.length];omega
    refine wpAny_mono (a4I (X:=fM X xs scope h3.objs.size { s2 with heap:=h3,toks:=s2.toks } (upd H2 Da (.lst [])) fp pins) _ s9 (vs.map some++σ) H9 (.ref Da) [vy] (.ref Da) [uy] (fun _ H10=>H10=upd H9 Da (.lst (ws++[vy]))) I9 rfl (.cons ry .nil) ⟨Da,ws,vy,rfl,rfl,hH9,aA6,rfl⟩) (fun _ s10 ⟨_,H10,I10,_,e10⟩=>?_) fun _ _ z=>z.elim;subst e10;obtain ⟨a1,a2⟩:=ai7 I10;have tt:Ts H9 (upd H9 Da (.lst (ws++[vy]))) := .turn hH9 (fun _ z=>nomatch z) (fun _ _ z=>nomatch z);exact ⟨src.items.length - (i+1),by omega,i+1,ds++[y],_,_,down I10,a1,a2,g9.turn (u := .lst (ds++[y])) tt ⟨_,aH,(rws.append (.cons ryd .nil)).mono tt⟩,q9,hlt,rfl,((ts.trans t8).trans t9).trans tt⟩
  ·have ein:i=src.items.length:=by omega
   subst ein;refine wpAny_mono (T.done (fM X xs scope h3.objs.size { s2 with heap:=h3,toks:=s2.toks } (upd H2 Da (.lst [])) fp pins) rfl rfl rfl (fun h=>h) (fun _ h=>h) _ [] s' (nn xs σ) H' (fun _ _=>False) J (fpX fr) st aA4) (fun r s5 ⟨hr,J5⟩=>?_) fun _ _ z=>z.elim;subst hr;obtain ⟨m5,hn5,_⟩:=id J5.loc;obtain ⟨G0,l0,q0⟩:=pend ds G' p;have I5:Inv X pins σ H' s5:=anN (tk:=s5.toks) I3 rfl hf3 J5 (nu.refl _ _);refine hRR Da _ s5 H' G0 I5 ⟨⟨m5,hn5⟩,J5.free,yq I3.lt,I3.sz,fun y d e z=>?_,fun p hp z=>?_⟩ (t1.trans ts) (g'.le l0) q0
   ·obtain ⟨w,o,ho,_⟩:=I3.cell y d e;rw [z] at ho;exact absurd (cg ho) (jq _)
   ·have:=(I3.pin p hp).1;rw [z] at this;exact absurd (cg this) (jq _)
 exact codeAny_compStart_list (loop _ J0 st1) (T.self X.A 0 _ _ _ st1 (loop _ J0 st1))
noncomputable def wX (dv:D->Option (List D)) (ti:TI3) (tc:vM) (te:cF):cF:=fun ρ G R=>ti ρ G fun src G1=>src.items.length < sizeLine/\∀ p,G1 p=none->∃ P:Nat->List D->Gp->Prop,P 0 [] (aG G1 p (.lst [])) /\
 (∀ k ds G,k<=src.items.length->P k ds G->src.ok G/\G p=some (.lst ds)/\ds.length<=k) /\
 (∀ k d ds G,src.items[k]?=some d->P k ds G->∃ ys,dv d=some ys/\tc (ys.map some++ρ) G fun b G2=>if b=true then te (ys.map some++ρ) G2 fun y G3=>G3 p=some (.lst ds)/\P (k+1) (ds++[y]) (aG G3 p (.lst (ds++[y]))) else P (k+1) ds G2) /\
 ∀ ds G,P src.items.length ds G->∃ G0,Le G0 G/\R (.ref p) G0
noncomputable def ai8 (d:D):Option (List D):=some [d]
noncomputable abbrev abE (ti:TI3) (tc:vM) (te:cF):cF:=wX ai8 ti tc te
noncomputable def ai9 (n:Nat) (d:D):Option (List D):=match d with
 | .tup ds=>if ds.length=n then some ds else none
 | _=>none
noncomputable abbrev mZ (n:Nat) (ti:TI3) (tc:vM) (te:cF):cF:=wX (ai9 n) ti tc te
theorem aiA (d:D) (ds:List D) (h:ai8 d=some ds):ds.length=[x].length:=by
 unfold ai8 at h;cases h;rfl
theorem a6L {n:Nat} {d:D} (h:ai9 n d=some ds):d = .tup ds/\ds.length=n:=by
 unfold ai9 at h;split at h
 ·split at h
  ·rename_i e;cases h;exact ⟨rfl,e⟩
  ·cases h
 ·cases h
theorem abF (c:pR X xs scope) (hnd:X.N.Nodup):(xs++X.N).Nodup:=List.nodup_append.mpr ⟨c.nd,hnd,fun a ha b hb e=>c.out a ha (e ▸ hb)⟩
theorem auR (c:pR X [x] scope) (hnd:X.N.Nodup) {s:Shared} {H:Hp} {σ:St}:ai4 (fM X [x] scope C s H fp pins) (.Name x px) [x] ai8 σ:=by
 intro zJ s' H' v u d ds I r rd e;unfold ai8 at e;cases e;have pgn:PG (fM X [x] scope C s H fp pins) (.Name x px) (acN 0):=a5T (abF c hnd) rfl (.inl (lookup_relabel_local (c.var x (by simp)))) (.inr (lookup_relabel_local (c.var x (by simp))));refine wpAny_mono (pgn zJ s' (nn [x] σ) H' v u (fun σ' H2=>σ'=[v].map some++σ/\H2=H') I r ⟨rfl,rfl⟩) (fun _ s2 ⟨σ2,H2,I2,e2,e3⟩=>?_) fun _ _ z=>z;subst e2;subst e3;exact ⟨[v],.cons rd .nil,I2⟩
theorem a6M (c:pR X xs scope) (hT:∀ C s H fp pins σ,ai4 (fM X xs scope C s H fp pins) tgt xs dv σ) (hdv:∀ d ds,dv d=some ds->ds.length=xs.length) (hi:PI3 X tgt iter ti) (hc:∀ C s H fp pins,afP (fM X xs scope C s H fp pins) ifs tc) (he:∀ C s H fp pins,cM (fM X xs scope C s H fp pins) elt te)
  (hs:∀ y,foldedSetIterable iter X.env y=pure y):cM X (.ListComp elt [⟨tgt,iter,ifs,0⟩] scope pos) (wX dv ti tc te):=by
 intro pins s σ H Q I h _tk;obtain ⟨ρ,G,R,sr,g,q,kk⟩:=h;rw [eval_ListComp];refine wpAny_comprehension_free (use:=none) rfl hs (oO fun y hy hf=>I.ok.has y.1 (c.frees y hy hf)) c.kind c.locs ?_
 refine cL (hi pins s σ H (fun J H1=>Ts H H1/\∃ src G1,HR X.K H1 G1/\a8Y X.K H1 src J/\(src.items.length < sizeLine/\∀ p,G1 p=none->∃ P:Nat->List D->Gp->Prop,P 0 [] (aG G1 p (.lst [])) /\
   (∀ k ds G,k<=src.items.length->P k ds G->src.ok G/\G p=some (.lst ds)/\ds.length<=k) /\
   (∀ k d ds G,src.items[k]?=some d->P k ds G->∃ ys,dv d=some ys/\tc (ys.map some++ρ) G fun b G2=>if b=true then te (ys.map some++ρ) G2 fun y G3=>G3 p=some (.lst ds)/\P (k+1) (ds++[y]) (aG G3 p (.lst (ds++[y]))) else P (k+1) ds G2) /\
   ∀ ds G,P src.items.length ds G->∃ G0,Le G0 G/\R (.ref p) G0)) I ⟨ρ,G,_,sr,g,q,fun src J H' G' t1 g1 sj q1=>⟨t1,src,G',g1,sj,q1⟩⟩) fun v s1 h1=>cL h1 fun itv s2 hz=>?_
 obtain ⟨it,fp,tn,J,H2,e,I2,T,st2,f2,t1,src,G1,g1,sj,hlen,body⟩:=hz;subst e
 exact a4S (RR:=fun acc C=>compPost (model X.prog X.w) X.A X.xe none (EP X pins σ Q) acc C) c hT hdv hc he sr I2 T st2 f2 t1 g1 sj hlen body fun Da C s5 H' G0 I5 o ts g0 q0=>by
  obtain ⟨m,hn⟩:=o.ns;exact ⟨m,hn,fun h' hs'=>⟨.ref Da,H',o.turn I5 hs',rfl,kk _ H' _ G0 ts (.ref Da) g0 q0⟩⟩
theorem anR {y:Str} {i:Nat} {py spos:Pos} (c:pR X xs scope) (hT:∀ C s H fp pins σ,ai4 (fM X xs scope C s H fp pins) tgt xs dv σ) (hdv:∀ d ds,dv d=some ds->ds.length=xs.length) (hnd:X.N.Nodup) (hy:X.N[i]?=some y) (hl:Loc X.env.scope y) (hf:X.fn y=true) (hi:PI3 X tgt iter ti) (hc:∀ C s H fp pins,afP (fM X xs scope C s H fp pins) ifs tc) (he:∀ C s H fp pins,cM (fM X xs scope C s H fp pins) elt te)
  (hs:∀ y,foldedSetIterable iter X.env y=pure y):PS3 X (.Assign [.Name y py] (.ListComp elt [⟨tgt,iter,ifs,0⟩] scope pos) spos) (bO i (wX dv ti tc te)):=by
 have hsw:∃ b,swapsWith (.ListComp elt [⟨tgt,iter,ifs,0⟩] scope pos) (some (.Name y py)) spos.line X.env=pure b:=⟨_,rfl⟩;obtain ⟨b,hsw⟩:=hsw;cases b with
 | false=>exact aqJ hnd hy hl (a6M c hT hdv hi hc he hs) hsw (.inl hf)
 | true =>
  intro pins s σ H F I h _tk;obtain ⟨ρ,G,E,sr,g,q,d⟩:=h;rw [exec_Assign_Name_used _ _ _ _ hsw];refine aj (wpAny_standAt (aj ?_));show wpAny _ X.A (do let _ ← comprehension (.ListComp elt [⟨tgt,iter,ifs,0⟩] scope pos) scope X.env _ (newList []) false (eval iter X.env) (some (assign (.Name y py) X.env))) _ _ s;refine aj (wpAny_mono (wpAny_comprehension_free (use:=some (assign (.Name y py) X.env)) (Q:=fun _ s'=>SP X pins F .next s') rfl hs (oO fun y hy hf=>I.ok.has y.1 (c.frees y hy hf)) c.kind c.locs ?_) (fun _ s' hq=>bh (bh hq)) fun _ _ e=>e)
  refine cL (hi pins s σ H (fun J H1=>Ts H H1/\∃ src G1,HR X.K H1 G1/\a8Y X.K H1 src J/\(src.items.length < sizeLine/\∀ p,G1 p=none->∃ P:Nat->List D->Gp->Prop,P 0 [] (aG G1 p (.lst [])) /\
    (∀ k ds G,k<=src.items.length->P k ds G->src.ok G/\G p=some (.lst ds)/\ds.length<=k) /\
    (∀ k d ds G,src.items[k]?=some d->P k ds G->∃ ys,dv d=some ys/\tc (ys.map some++ρ) G fun b G2=>if b=true then te (ys.map some++ρ) G2 fun y G3=>G3 p=some (.lst ds)/\P (k+1) (ds++[y]) (aG G3 p (.lst (ds++[y]))) else P (k+1) ds G2) /\
    ∀ ds G,P src.items.length ds G->∃ G0,Le G0 G/\E.nx (uP ρ i (.ref p)) G0)) I ⟨ρ,G,_,sr,g,q,fun src J H' G' t1 g1 sj q1=>⟨t1,src,G',g1,sj,q1⟩⟩) fun v s1 h1=>cL h1 fun itv s2 hz=>?_
  obtain ⟨it,fp,tn,J,H2,e,I2,T,st2,f2,t1,src,G1,g1,sj,hlen,body⟩:=hz;subst e;refine a4S (R:=fun z G0=>E.nx (uP ρ i z) G0) (RR:=fun acc C=>compPost (model X.prog X.w) X.A X.xe (some (assign (.Name y py) X.env)) (fun _ s'=>SP X pins F .next s') acc C) c hT hdv hc he sr I2 T st2 f2 t1 g1 sj hlen body fun Da C s5 H' G0 I5 o ts g0 q0=>?_;show wpAny _ X.A (assign (.Name y py) X.env (.ref Da)) _ _ s5;refine wpAny_assign_Name (a4C (v := .ref Da) I5 hnd hy hl rfl (fun s6 I6 ⟨a,hsb,ha⟩=>?_) (.inl hf));obtain ⟨m,hn⟩:=o.ns
  have hCa:C≠a:=by
   rcases ha with rfl | ha
   ·exact o.loc
   ·exact fun z=>o.cells y a ha z.symm
  have o6:anQ X pins H' C s6.heap:=⟨⟨m,hn.sameBut hsb hCa⟩,o.free,o.loc,o.young,o.cells,o.pins⟩;refine ⟨m,hn.sameBut hsb hCa,fun h' hs'=>⟨_,H',o6.turn I6 hs',d.nx _ G0 _ H' ((sr.mono ts).set (.ref Da) i) g0 q0⟩⟩
end
end
variable {es:List Expr}{is:List Nat}
section
abbrev TG3:=D->aN->(aN->Prop)->Prop
noncomputable def upG (K:Fg) (t:TG3):TG:=fun v σ H Q=>∃ ρ d R,SR K H ρ σ/\RD K H d v/\t d ρ R/\∀ ρ' σ',SR K H ρ' σ'->R ρ'->Q σ' H
abbrev PG3 (X:Cx) (tg:Expr) (t:TG3):Prop:=PG X tg (upG X.K t)
noncomputable def vR (i:Nat):TG3:=fun d ρ Q=>Q (uP ρ i d)
noncomputable def zO:aN->List Nat->List D->aN
 | ρ,i :: is,d :: ds=>zO (uP ρ i d) is ds
 | ρ,_,_=>ρ
noncomputable def uW (is:List Nat):TG3:=fun d ρ Q=>match d with
 | .tup ds=>ds.length=is.length/\Q (zO ρ is ds)
 | _=>False
noncomputable def a4T:St->List Nat->List V->St
 | σ,i :: is,v :: vs=>a4T (σ.set i (some v)) is vs
 | σ,_,_=>σ
theorem SR.sets {K:Fg} {H:Hp}:∀ {is:List Nat} {ds:List D} {vs:List V} {ρ:aN} {σ:St},bV K H ds vs->SR K H ρ σ->SR K H (zO ρ is ds) (a4T σ is vs)
 | [],_,_,_,_,_,s=>s
 | _ :: _,_,_,_,_,.nil,s=>s
 | i :: is,_,_,_,_,.cons h r,s=>SR.sets (is:=is) r (s.set h i)
variable {p:Addr}
section
variable {X:Cx}
theorem PG.imp {t t':TG} (h:PG X e t) (k:∀ v σ H Q,t' v σ H Q->t v σ H Q):PG X e t':=fun pins s σ H v u Q I r q=>h pins s σ H v u Q I r (k _ _ _ _ q)
theorem auS {i:Nat} {x:Str} {pos:Pos} (hN:X.N.Nodup) (hi:X.N[i]?=some x) (hx:Loc X.env.scope x) (hf:X.fn x=true∨X.env.scope.names.lookup x=some .local):PG3 X (.Name x pos) (vR i) :=
 PG.imp (a5T hN hi hx hf) fun v σ H Q h=>by
 obtain ⟨ρ,d,R,s,r,q,k⟩:=h;exact k _ _ (s.set r i) q
structure anS (X:Cx) (e:Expr) (i:Nat):Prop where
 ex:∃ x pos,e = .Name x pos/\X.N[i]?=some x/\Loc X.env.scope x/\(X.fn x=true∨X.env.scope.names.lookup x=some .local)
noncomputable def auT:List Nat->TGs
 | []=>ayF
 | i :: is=>aq9 (acN i) (auT is)
theorem a6N:∀ {is:List Nat} {vs:List V} {σ:St} {H:Hp} {Q:St->Hp->Prop},vs.length=is.length->Q (a4T σ is vs) H->auT is vs σ H Q
 | [],[],_,_,_,_,q=>⟨rfl,q⟩
 | [],_ :: _,_,_,_,h,_=>by simp at h
 | _ :: _,[],_,_,_,h,_=>by simp at h
 | i :: is,v :: vs,σ,H,Q,h,q=>⟨v,vs,rfl,a6N (is:=is) (by simpa using h) q⟩
theorem yW (hN:X.N.Nodup):∀ {es:List Expr} {is:List Nat},Two (anS X) es is->PGs X es (auT is)/\(assignEach es X.env).length=is.length/\(assignEach es X.env).findIdx? (·.1)=none
 | _,_,.nil=>⟨amB,rfl,rfl⟩
 | _,_,.cons (a:=e) (b:=i) h r=>by
  obtain ⟨x,pos,rfl,h1,h2,h3⟩:=h.ex;obtain ⟨a1,a2,a3⟩:=yW hN r;refine ⟨agU (a5T hN h1 h2 h3) a1 rfl,?_,?_⟩
  ·show (assignEach _ X.env).length+1=_;rw [a2];rfl
  ·show ((false,assign (.Name x pos) X.env) :: assignEach _ X.env).findIdx? (·.1)=none;rw [List.findIdx?_cons];simp [a3]
theorem aqP {k:Nat} {pos:Pos} (hN:X.N.Nodup) (hc:X.calm=true) (h:Two (anS X) es is):PG3 X (.Tuple es k pos) (uW is):=by
 obtain ⟨a1,a2,a3⟩:=yW hN h;refine PG.imp (agV hc a1 a2 a3) fun v σ H Q h=>?_;obtain ⟨ρ,d,R,s,r,q,k⟩:=h;cases r with
 | @tup a vs ds hq rv =>
  have q':ds.length=is.length/\R (zO ρ is ds):=q;exact ⟨a,vs,rfl,hq,by rw [← rv.length];exact q'.1,a6N (by rw [← rv.length];exact q'.1) (k _ _ (SR.sets rv s) q'.2)⟩
 | _=>exact False.elim q
theorem a4U:∀ (xs:List Str) (vs done:List V) (σ:St),vs.length=xs.length->a4T (done.map some++nn xs σ) (List.range' done.length xs.length) vs=(done++vs).map some++σ
 | [],[],done,σ,_=>by simp [a4T,nn]
 | [],_ :: _,_,_,h=>by simp at h
 | _ :: _,[],_,_,h=>by simp at h
 | x :: xs,v :: vs,done,σ,h=>by
  have ih:=a4U xs vs (done++[v]) σ (by simpa using h)
  have e1:(done.map some++nn (x :: xs) σ).set done.length (some v)=(done++[v]).map some++nn xs σ:=by
   simp [nn,List.set_append]
  show a4T ((done.map some++nn (x :: xs) σ).set done.length (some v)) (List.range' (done.length+1) xs.length) vs=_;rw [e1];have e2:(done++[v]).length=done.length+1:=by simp
  rw [e2] at ih;rw [ih];simp
theorem aiB {xs:List Str} {k:Nat} {pos:Pos} (c:pR X xs scope) (hnd:X.N.Nodup) (hc:X.calm=true) (hes:Two (fun e x=>∃ p,e=Expr.Name x p) es xs) {s:Shared} {H:Hp} {σ:St}:ai4 (fM X xs scope C s H fp pins) (.Tuple es k pos) xs (ai9 xs.length) σ:=by
 intro zJ s' H' v u d ds I r rd e;obtain ⟨rfl,hl⟩:=a6L e
 have nms:∀ (es':List Expr) (ys done:List Str),Two (fun e x=>∃ p,e=Expr.Name x p) es' ys->xs=done++ys->Two (anS (fM X xs scope C s H fp pins)) es' (List.range' done.length ys.length):=by
  intro es' ys
  induction ys generalizing es' with
  | nil=>intro done t _;cases t;exact .nil
  | cons y ys ih =>
   intro done t e;cases t with
   | cons h t =>
    obtain ⟨p,rfl⟩:=h;have z:=ih _ (done++[y]) t (by simp [e]);have e2:(done++[y]).length=done.length+1:=by simp
    rw [e2] at z;refine .cons ⟨y,p,rfl,?_,.inl (lookup_relabel_local (c.var y (by simp [e]))),.inr (lookup_relabel_local (c.var y (by simp [e])))⟩ z;show (xs++X.N)[done.length]?=some y;rw [e];simp
 obtain ⟨a1,a2,a3⟩:=yW (X:=fM X xs scope C s H fp pins) (abF c hnd) (nms es xs [] hes rfl);cases rd with
 | @tup a vs _ hq rv =>
  have lv:vs.length=xs.length:=by rw [← rv.length];exact hl
  have pgt:=agV (X:=fM X xs scope C s H fp pins) (k:=k) (pos:=pos) (show (fM X xs scope C s H fp pins).calm=true from hc) a1 a2 a3;refine wpAny_mono (pgt zJ s' (nn xs σ) H' (.ref a) u (fun σ' H2=>σ'=vs.map some++σ/\H2=H') I r ⟨a,vs,rfl,hq,by simpa using lv,a6N (by simpa using lv) ⟨?_,rfl⟩⟩) (fun _ s2 ⟨σ2,H2,I2,e2,e3⟩=>?_) fun _ _ z=>z
  ·have:=a4U xs vs [] σ lv;simpa using this
  ·subst e2;subst e3;exact ⟨vs,rv,I2⟩
def afR (K:Fg) (src:Src) (J:It):Prop:=∀ H2 G2,HR K H2 G2->src.ok G2 ->
 (∀ i,i < src.items.length->J.go i H2)/\(∀ i v H',i < src.items.length->J.yld i H2 v H'->Same H2 H'/\∃ d,src.items[i]?=some d/\RD K H' d v)/\J.stop src.items.length H2
noncomputable def aEW (K:Fg) (t:TI3):TI:=fun σ H Q=>∃ ρ G R,SR K H ρ σ/\HR K H G/\t ρ G R/\∀ src J H' G',Ts H H'->HR K H' G'->afR K src J->R src G'->Q J H'
abbrev PIS (X:Cx) (tg iter:Expr) (t:TI3):Prop:=PI X tg iter (aEW X.K t)
noncomputable def a6O (te:cF):TI3:=fun ρ G R=>te ρ G fun x G1=>match x with
 | .ref p=>(match aL G1 p with
  | some xs=>R (.lst p xs) G1
  | none=>False)
 | .str z=>R (.imm (signs z)) G1
 | .tup xs=>xs.all scD=true/\∀ a,(G1 a=none∨G1 a=some (.tpl xs))->R (.tpl a xs) (aG G1 a (.tpl xs))
 | _=>False
theorem aA9 {K:Fg} {H:Hp} {d d':D} {v:V} (h:scD d=true) (r:RD K H d v) (r':RD K H d' v):d'=d:=by
 cases r with
 | non=>cases r';rfl
 | bl b=>cases r';rfl
 | int i=>cases r';rfl
 | str x=>cases r';rfl
 | _=>exact Bool.noConfusion (show false=true from h)
theorem aiC {K:Fg} {H:Hp}:∀ {ds ds':List D} {vs:List V},ds.all scD=true->bV K H ds vs->bV K H ds' vs->ds'=ds
 | _,_,_,_,.nil,.nil=>rfl
 | d :: ds,d' :: ds',_,h,.cons r rr,.cons r' rr'=>by
  rw [qz,ak] at h;rw [aA9 h.1 r r',aiC h.2 rr rr']
theorem aiD {σ:St} {H:Hp} {s:Shared} {G:Gp} {a:Addr} {xs:List V} {o:GO} (I:Inv X pins σ H s) (g:HR X.K H G) (hq:qQ X.K H a xs) (e:G a=some o):∃ ds,o = .tpl ds/\bV X.K H ds xs:=by
 have no:∀ u,H a=some u->(∀ ys,u ≠ .tup ys)->(∀ ob ys,u ≠ .oJ ob (.tup ys))->False:=fun u hu h1 h2=>by
  rcases hq with (q | ⟨ob,q⟩) | ⟨ob,_,_,q,_⟩
  ·rw [hu] at q;exact h1 _ (ig.inj q)
  ·rw [hu] at q;exact h2 _ _ (ig.inj q)
  ·have:=uV I a ob q;rw [hu] at this;cases this
 have z:=g a o e;cases o with
 | lst ds=>obtain ⟨_,q,_⟩:=z;exact (no _ q (fun _ w=>nomatch w) (fun _ _ w=>nomatch w)).elim
 | rol ds =>
  obtain ⟨_,q,_⟩:=z;obtain ⟨_,_,⟨o1,n1,e1,c1,_⟩,_⟩:=I.list q;obtain ⟨_,_,⟨o2,e2,c2,_⟩,_⟩:=I.tuple hq;rw [e1] at e2;cases e2;rw [c1] at c2;exact absurd c2 (by decide)
 | dic t kvs=>rcases z with ⟨_,_,q,_⟩ | ⟨_,_,q,_⟩ <;> exact (no _ q (fun _ w=>nomatch w) (fun _ _ w=>nomatch w)).elim
 | ins C fs=>obtain ⟨_,_,q,_⟩:=z;exact (no _ q (fun _ w=>nomatch w) (fun _ _ w=>nomatch w)).elim
 | exn C=>obtain ⟨_,_,q,_⟩:=z;exact (no _ q (fun _ w=>nomatch w) (fun _ _ w=>nomatch w)).elim
 | rdc ob t kvs=>rcases z with ⟨_,_,q,_⟩ | ⟨_,_,q,_⟩ <;> exact (no _ q (fun _ w=>nomatch w) (fun _ _ w=>nomatch w)).elim
 | tpl ds=>obtain ⟨ys,q,r⟩:=z;exact ⟨ds,rfl,by rw [← I.yK q hq];exact r⟩
 | kst ks=>obtain ⟨_,_,_,q,_⟩:=z;exact (no _ q (fun _ w=>nomatch w) (fun _ _ w=>nomatch w)).elim
 | nst ks=>obtain ⟨_,_,_,q,_⟩:=z;exact (no _ q (fun _ w=>nomatch w) (fun _ _ w=>nomatch w)).elim
 | tab q p=>obtain ⟨_,q,_⟩:=z;exact (no _ q (fun _ w=>nomatch w) (fun _ _ w=>nomatch w)).elim
 | clo c d=>obtain ⟨_,_,_,_,_,_,_,_,q,_⟩:=z;exact (no _ q (fun _ w=>nomatch w) (fun _ _ w=>nomatch w)).elim
theorem anT {σ:St} {H:Hp} {s:Shared} {G:Gp} {a:Addr} {xs:List V} (I:Inv X pins σ H s) (g:HR X.K H G) (hq:qQ X.K H a xs) (rv:bV X.K H ds xs) (sc:ds.all scD=true) :
  (G a=none∨G a=some (.tpl ds))/\HR X.K H (aG G a (.tpl ds)):=by
 refine ⟨?_,fun b o e=>?_⟩
 ·cases e:G a with
  | none=>exact .inl rfl
  | some o=>obtain ⟨ds',rfl,r⟩:=aiD I g hq e;exact .inr (by rw [aiC sc rv r])
 ·by_cases hb:b=a
  ·subst hb;rw [aJ] at e;cases e;exact ⟨xs,hq,rv⟩
  ·rw [bJ hb] at e;exact g b o e
theorem aiE {K:Fg}:afR K (.tpl p xs) (Itt K p):=fun H2 G2 g ok=>by
 obtain ⟨vs,hq,rv⟩:=g p _ ok;exact a8Z hq rv H2 G2 (.refl _) g trivial
theorem afS {K:Fg}:afR K (.lst p xs) (Itl K p):=fun H2 G2 g ok=>a4R (H1:=H2) H2 G2 (.refl _) g ok
theorem a91 {K:Fg}:afR K (.imm (signs z)) (Its z):=fun H2 G2 g ok=>a1H (H1:=H2) H2 G2 (.refl _) g ok
theorem aiF {K:Fg} {n:Nat}:afR K (.imm ((dh n).map fun (i:Nat) => .int (lo+(i:Int)))) (Itr lo n):=fun H2 G2 g ok=>a90 (H1:=H2) H2 G2 (.refl _) g ok
theorem aiG (hl:cM X l te):PIS X tg l (a6O te):=by
 intro pins s σ H R I h _tk;obtain ⟨ρ,G,R3,sr,g,q,k⟩:=h
 refine cL (hl pins s σ H (fun v H1=>Ts H H1/\∃ x G1,RD X.K H1 x v/\HR X.K H1 G1/\(match x with
  | .ref p=>(match aL G1 p with
   | some xs=>R3 (.lst p xs) G1
   | none=>False)
  | .str z=>R3 (.imm (signs z)) G1
  | .tup xs=>xs.all scD=true/\∀ a,(G1 a=none∨G1 a=some (.tpl xs))->R3 (.tpl a xs) (aG G1 a (.tpl xs))
  | _=>False)) I ⟨ρ,G,_,sr,g,q,fun v H1 x G1 t1 r g1 q1=>⟨t1,x,G1,r,g1,q1⟩⟩) fun v s1 ⟨x,H1,I1,r1,t1,d,G1,rd,g1,q1⟩=>?_
 cases rd with
 | ref a =>
  have q1':(match aL G1 a with
   | some xs=>R3 (.lst a xs) G1
   | none=>False):=q1
  split at q1'
  ·rename_i xs e;cases r1;obtain ⟨vs,hq,rv⟩:=bN g1 e;obtain ⟨its,rv',p,hz⟩:=I1.list hq;refine wpAny_pyIter_list p.isList ?_;refine ⟨s1.heap.objs.size,[s1.heap.objs.size],_,_,H1,rfl,I1.kept (t':=s1.toks) fun b o e=>ao _ e,a4D a _,⟨_,dw _ rfl,rfl,rfl⟩,fun b hb=>?_,k _ _ H1 G1 t1 g1 afS q1'⟩;have e:b=s1.heap.objs.size:=by simpa using hb
   subst e;exact I1.yL (au _) (I1.hok.fresh (au _))
  ·exact q1'.elim
 | str z =>
  obtain ⟨t,rfl⟩:=r1;cases ha:z.cps.all (· < 128)
  ·refine wpAny_pyIter_wide ha ?_;refine ⟨s1.heap.objs.size,[s1.heap.objs.size],_,_,H1,rfl,I1.kept (t':=s1.toks) fun b o e=>ao _ e,a4Q _ z t,?_,fun b hb=>?_,k _ _ H1 G1 t1 g1 a91 q1⟩
   ·rw [Nat.zero_min];exact ⟨_,dw _ rfl,rfl,rfl⟩
   ·have e:b=s1.heap.objs.size:=by simpa using hb
    subst e;exact I1.yL (au _) (I1.hok.fresh (au _))
  ·refine wpAny_pyIter_ascii ha ?_;refine ⟨s1.heap.objs.size,[s1.heap.objs.size],_,_,H1,rfl,I1.kept (t':=s1.toks) fun b o e=>ao _ e,a4P _ z t,?_,fun b hb=>?_,k _ _ H1 G1 t1 g1 a91 q1⟩
   ·rw [Nat.zero_min];exact ⟨_,dw _ rfl,rfl,rfl⟩
   ·have e:b=s1.heap.objs.size:=by simpa using hb
    subst e;exact I1.yL (au _) (I1.hok.fresh (au _))
 | @tup a vs xs hq rv =>
  cases r1;obtain ⟨its,rv',p,hz⟩:=I1.tuple hq;obtain ⟨sc,q1⟩:=q1;obtain ⟨hG,g2⟩:=anT I1 g1 hq rv sc;refine wpAny_pyIter_tuple (show s1.heap.IsTuple a its.toArray from p) ?_;refine ⟨s1.heap.objs.size,[s1.heap.objs.size],_,_,H1,rfl,I1.kept (t':=s1.toks) fun b o e=>ao _ e,a0P a _,⟨_,dw _ rfl,rfl,rfl⟩,fun b hb=>?_,k _ _ H1 _ t1 g2 aiE (q1 a hG)⟩;have e:b=s1.heap.objs.size:=by simpa using hb
  subst e;exact I1.yL (au _) (I1.hok.fresh (au _))
 | _=>exact q1.elim
theorem anU {a:Expr} {p pos:Pos} (hg:Gl X "range") (hm:X.mg "range" = none) (ha:PA3 X [a] ta) (hs:starEach [a] X.env=[(false,eval a X.env)]):PIS X tg (.Call (.Name "range" p) [a] [] pos) (sH ta) :=
 PI.imp (a4E hg hm ha hs) fun σ H Q h=>by
 obtain ⟨ρ,G,R,s,g,q,k⟩:=h;refine ⟨ρ,G,_,s,g,q,fun vs H1 ds G1 t1 r g1 h1=>?_⟩;cases r with
 | nil=>exact h1.elim
 | cons r rr =>
  cases rr with
  | cons _ _=>cases r <;> exact False.elim h1
  | nil =>
   cases r with
   | int j =>
    obtain ⟨l1,l2,h1⟩:=h1;refine ⟨j,rfl,l1,l2,k _ _ H1 G1 t1 g1 ?_ h1⟩;unfold vQ;rw [show (j - 0).toNat=j.toNat by omega];exact aiF
   | _=>exact False.elim h1
noncomputable def jC (ti:TI3) (tg:TG3) (tb:bH):bH:=fun F ρ G=>ti ρ G fun src G1=>∃ P:Nat->aN->Gp->Prop,P 0 ρ G1/\(∀ k ρ G,k<=src.items.length->P k ρ G->src.ok G) /\
 (∀ k d ρ G,src.items[k]?=some d->P k ρ G->tg d ρ fun ρ2=>tb { F with nx:=P (k+1),ct:=P (k+1),bk:=F.nx } ρ2 G)/\∀ ρ G,P src.items.length ρ G->F.nx ρ G
theorem aiH {tgt iter:Expr} {body:List Stmt} {ti:TI3} {tg:TG3} {tb:bH} {pos:Pos} (hp:PassesOwn (model X.prog X.w) X.A X.env X.xe) (hi:PIS X tgt iter ti) (hg:PG3 X tgt tg) (hb:yP X body tb)
  (hs:∀ x,foldedSetIterable iter X.env x=pure x):PS3 X (.For tgt iter body [] pos) (jC ti tg tb):=PS.imp (asN hp hi hg hb hs) fun F σ H h=>by
 obtain ⟨ρ,G,E,s,g,q,d⟩:=h
 refine ⟨ρ,G,fun src G1=>∃ P:Nat->aN->Gp->Prop,P 0 ρ G1/\(∀ k ρ G,k<=src.items.length->P k ρ G->src.ok G) /\
  (∀ k d ρ G,src.items[k]?=some d->P k ρ G->tg d ρ fun ρ2=>tb { E with nx:=P (k+1),ct:=P (k+1),bk:=E.nx } ρ2 G)/\∀ ρ G,P src.items.length ρ G->E.nx ρ G,s,g,q,fun src J H1 G1 t1 g1 sj ⟨P,p0,pok,pst,pend⟩=>?_⟩
 refine ahS (K:=X.K) (n:=src.items.length) (fun k σ2 H2=>∃ ρ' G',SR X.K H2 ρ' σ2/\HR X.K H2 G'/\P k ρ' G') ⟨ρ,G1,s.mono t1,g1,p0⟩ (fun σ2 H2 ⟨ρ',G',s2,g2,p⟩=>?_) (fun k σ2 H2 hk ⟨ρ',G',s2,g2,p⟩=>?_) (fun k y σ2 H2 H3 hk ⟨ρ',G',s2,g2,p⟩ hy=>?_)
  (fun σ2 H2 ⟨ρ',G',s2,g2,p⟩=>d.nx ρ' G' σ2 H2 s2 g2 (pend ρ' G' p))
 ·exact (sj H2 G' g2 (pok _ ρ' G' (au _) p)).2.2
 ·exact (sj H2 G' g2 (pok _ ρ' G' (jx hk) p)).1 k hk
 ·obtain ⟨sm,dk,e1,e2⟩:=(sj H2 G' g2 (pok _ ρ' G' (jx hk) p)).2.1 k y H3 hk hy;refine ⟨ρ',dk,_,s2.mono (.same sm),e2,pst k dk ρ' G' e1 p,fun ρ2 σ3 s3 q3=>?_⟩;exact ⟨ρ2,G',_,s3,g2.same sm,q3,⟨fun ρ4 G4 σ4 H4 s4 g4 q4=>⟨ρ4,G4,s4,g4,q4⟩,d.rt,d.nx,fun ρ4 G4 σ4 H4 s4 g4 q4=>⟨ρ4,G4,s4,g4,q4⟩⟩⟩
end
end
section
noncomputable def aEX:D->Bool
 | .bl _=>true
 | _=>false
noncomputable def aEY:D->Bool
 | .bl b=>b
 | _=>false
noncomputable def aH0:List D->Gp->dX->Prop:=fun xs G R=>match xs with
 | [.ref q]=>(match aL G q with
  | some ds=>ds.all aEX=true/\R (.bl (ds.all aEY)) G
  | none=>False)
 | _=>False
section
variable {X:Cx}
def on2 (xs:List D) (f:Int->Int->Prop):Prop:=match xs with
 | [.int i,.int j]=>f i j
 | _=>False
noncomputable def aqQ:List D->Gp->dX->Prop:=fun xs G R=>on2 xs fun i j=>R (.int (if j < i then j else i)) G
noncomputable def aqR:List D->Gp->dX->Prop:=fun xs G R=>on2 xs fun i j=>R (.int (if i < j then j else i)) G
theorem a92 {K:Fg} {H:Hp} (r:bV K H xs vs) {f:Int->Int->Prop} (h:on2 xs f):∃ i j,xs=[.int i,.int j]/\vs=[.int i,.int j]/\f i j:=by
 unfold on2 at h;split at h
 ·rename_i i j;cases r with
  | cons r1 r =>
  cases r with
  | cons r2 r =>
  cases r;cases r1;cases r2;exact ⟨i,j,rfl,rfl,h⟩
 ·exact h.elim
theorem aAA (hc:X.calm=true):cJ X (.builtin "min") aqQ:=cJ.of (af6 hc) fun H xs vs G R Q rx g q k=>by
 obtain ⟨i,j,rfl,rfl,q'⟩:=a92 (f:=fun i j=>R (.int (if j < i then j else i)) G) rx q;exact ⟨i,j,rfl,fun _=>k _ H _ G (.refl H) (.int _) g q'⟩
theorem aAB (hc:X.calm=true):cJ X (.builtin "max") aqR:=cJ.of (af5 hc) fun H xs vs G R Q rx g q k=>by
 obtain ⟨i,j,rfl,rfl,q'⟩:=a92 (f:=fun i j=>R (.int (if i < j then j else i)) G) rx q;exact ⟨i,j,rfl,fun _=>k _ H _ G (.refl H) (.int _) g q'⟩
end
end
variable {us:List Value}{zs:List (Int×Tok)}{ns:List Int}
section
def onN (x:D) (f:Int->Prop):Prop:=match x with
 | .int k=>f k
 | _=>False
section
variable {X:Cx} {pos:Pos}
noncomputable def yX (is:List Nat) (te:cF):bH:=fun F ρ G=>te ρ G fun d G1=>uW is d ρ fun ρ2=>F.nx ρ2 G1
theorem auU {k:Nat} {tp:Pos} (hg:PG3 X (.Tuple es k tp) (uW is)) (he:cM X e te) (hs:swapsWithSole [.Tuple es k tp] e pos.line X.env=pure false) (hw:swappedStores [.Tuple es k tp] e X.env=pure none)
  (h1:(assignEach [.Tuple es k tp] X.env).map (·.2)=[assign (.Tuple es k tp) X.env]):PS3 X (.Assign [.Tuple es k tp] e pos) (yX is te):=PS.imp (agW he hg hs hw h1) fun F σ H h=>by
 obtain ⟨ρ,G,E,s,g,q,d⟩:=h;exact ⟨ρ,G,_,s,g,q,fun v H' x G' t1 r g1 h=>⟨ρ,x,_,s.mono t1,r,h,fun ρ' σ' s' q'=>d.nx ρ' G' σ' H' s' g1 q'⟩⟩
noncomputable def ad5 (i:Nat) (f:Int->Int->Int) (te:cF):bH:=fun F ρ G=>aA i ρ G fun x G0=>onN x fun a=>te ρ G0 fun y G1=>onN y fun b=>F.nx (uP ρ i (.int (f a b))) G1
theorem aqS {i:Nat} {x:Str} {op:Operator} {f:Int->Int->Int} {pos':Pos} (hN:X.N.Nodup) (hi:X.N[i]?=some x) (hx:Loc X.env.scope x) (ho:mQ X (inplaceOp op) (rI0 fun i j => .int (f i j))) (he:cM X e te) (hf:X.fn x=true∨X.env.scope.names.lookup x=some .local) :
  PS3 X (.AugAssign (.Name x pos') op e pos) (ad5 i f te):=PS.imp (asK hN hi hx he (ti:=rI0 fun i j => .int (f i j)) (fun pins s σ H x y v u Q I rx ry q=>ho pins s σ H x y v u Q I rx ry q) hf) fun F σ H h=>by
 obtain ⟨ρ,G,E,s,g,q,d⟩:=h
 have q':(match at3 ρ i with
  | some x=>onN x fun a=>te ρ G fun y G1=>onN y fun b=>E.nx (uP ρ i (.int (f a b))) G1
  | none=>False):=q
 split at q'
 ·rename_i x0 e0;obtain ⟨v,e1,rv⟩:=s.get e0;cases rv with
  | int a =>
   refine ⟨.int a,e1,ρ,G,_,s,g,q',fun v H' y G' t1 r g1 h=>?_⟩;cases r with
   | int b=>exact ⟨a,b,rfl,rfl,d.nx _ G' _ H' ((s.mono t1).set (.int _) i) g1 h⟩
   | _=>exact False.elim h
  | _=>exact False.elim q'
 ·exact q'.elim
end
theorem ints_of {K:Fg} {H:Hp}:∀ {ns:List Int} {vs:List V} {us:List Value},bV K H (ns.map D.int) vs->Vals vs us->∃ ys:List (Int×Tok),us=ys.map (fun p=>Value.int p.1 p.2)/\ys.map (·.1)=ns
 | [],_,_,r,v=>by cases r;cases v;exact ⟨[],rfl,rfl⟩
 | n :: ns,_,_,r,v=>by
  cases r with
  | cons h r =>
   cases h with
   | int i =>
    cases v with
    | cons hu v =>
     obtain ⟨t,rfl⟩:=hu;obtain ⟨ys,e1,e2⟩:=ints_of r v;exact ⟨(n,t) :: ys,by rw [e1];rfl,by rw [jm,e2]⟩
def anV (xs:List D) (G:Gp) (P:List D->Prop) (O:Prop):Prop:=match xs with
 | [.ref q]=>(match aL G q with
  | some ds=>P ds
  | none=>False)
 | _=>O
noncomputable def a93:List D->Gp->dX->Prop:=fun xs G R=>anV xs G (fun ds=>∃ ns:List Int,ds=ns.map D.int/\R (.int ns.sum) G) False
section
variable {X:Cx}
theorem auV {H:Hp} {P:List D->Prop} {O:Prop} {s:Shared} {σ:St} {G:Gp} (I:Inv X pins σ H s) (rx:bV X.K H xs vs) (rv:Vals vs us) (g:HR X.K H G)
  (h:anV xs G P O):(∃ a ds ys its,us=[.ref a]/\bV X.K H ds ys/\Vals ys its/\s.heap.IsList a its.toArray/\P ds)∨O:=by
 cases rx with
 | nil=>exact .inr h
 | cons r1 rr =>
  cases rr with
  | cons _ _=>cases r1 <;> exact .inr h
  | nil =>
   cases r1 with
   | ref a =>
    obtain ⟨u,rfl,ru⟩:=vals1 rv;cases ru
    have q':(match aL G a with
     | some ds=>P ds
     | none=>False):=h
    split at q'
    ·rename_i ds e1;obtain ⟨ys,hq,r1⟩:=bN g e1;obtain ⟨its,rv',p,hz⟩:=I.list hq;exact .inl ⟨a,ds,ys,its,rfl,r1,rv',p.isList,q'⟩
    ·exact q'.elim
   | _=>exact .inr h
theorem int_list {s:Shared} {a:Addr} (p:s.heap.IsList a (zs.map fun p=>Value.int p.1 p.2).toArray):s.heap.IsList a (intItems zs.toArray):=by
 have:intItems zs.toArray=(zs.map fun p=>Value.int p.1 p.2).toArray:=by simp [intItems]
 rw [this];exact p
theorem aAC (hc:X.calm=true):cJ X (.builtin "sum") a93:=by
 intro pins s σ H xs vs us G R Q I rx rv g q k;rcases auV I rx rv g q with ⟨a,ds,ys,its,rfl,r1,rv',p,ns,rfl,q'⟩ | z
 ·obtain ⟨zs,rfl,e2⟩:=ints_of r1 rv';refine sum_intListG (I.ok.hd hc) (int_list p) fun h' tk t' kk=>?_
  have e3:preSum (numAt zs.toArray) zs.toArray.size=ns.sum:=by
   rw [preSum_eq,vd (by simp)];rw [← e2]
  rw [e3];exact ⟨.int _,H,I.kept kk,⟨t',rfl⟩,k _ H _ G (.refl H) (.int _) g q'⟩
 ·exact z.elim
noncomputable def yZ:List D->Gp->dX->Prop:=fun xs G R=>anV xs G (fun ds=>∃ ns:List Int,ds=ns.map D.int/\ns≠[]/\∀ M,M∈ns->(∀ a∈ns,a<=M)->R (.int M) G) (aqR xs G R)
noncomputable def sI:List D->Gp->dX->Prop:=fun xs G R=>anV xs G (fun ds=>∃ ns:List Int,ds=ns.map D.int/\ns≠[]/\∀ M,M∈ns->(∀ a∈ns,M<=a)->R (.int M) G) (aqQ xs G R)
theorem abG (e2:zs.map (·.1)=ns) {j:Nat} (h:j < zs.toArray.size):numAt zs.toArray j∈ns:=by
 rw [numAt_eq,← e2];exact getD_mem (by simpa using h)
theorem abH (e2:zs.map (·.1)=ns) {a:Int} (h:a∈ns):∃ j,j < zs.toArray.size/\numAt zs.toArray j=a:=by
 rw [← e2] at h;obtain ⟨j,hj,rfl⟩:=mem_getD h;exact ⟨j,by simpa using hj,by rw [numAt_eq]⟩
theorem auW (hc:X.calm=true):cJ X (.builtin "max") yZ:=by
 intro pins s σ H xs vs us G R Q I rx rv g q k;rcases auV I rx rv g q with ⟨a,ds,ys,its,rfl,r1,rv',p,ns,rfl,hne,q'⟩ | z
 ·obtain ⟨zs,rfl,e2⟩:=ints_of r1 rv'
  have hsz:0 < zs.toArray.size:=by
   cases zs with
   | nil=>exact absurd e2.symm hne
   | cons _ _=>simp
  refine max_intList (I.ok.hd hc) (int_list p) hsz fun v h' tk hv kk=>?_;obtain ⟨t,rfl⟩:=intItems_at hv;obtain ⟨h1,h2⟩:=argBest_gt (numAt zs.toArray) (zs.toArray.size - 1);refine ⟨.int _,H,I.kept kk,⟨t,rfl⟩,k _ H _ G (.refl H) (.int _) g (q' _ (abG e2 (by omega)) fun a ha=>?_)⟩;obtain ⟨j,hj,rfl⟩:=abH e2 ha;exact h2 j (by omega)
 ·exact aAB hc pins s σ H _ vs us G R Q I rx rv g z k
theorem auX (hc:X.calm=true):cJ X (.builtin "min") sI:=by
 intro pins s σ H xs vs us G R Q I rx rv g q k;rcases auV I rx rv g q with ⟨a,ds,ys,its,rfl,r1,rv',p,ns,rfl,hne,q'⟩ | z
 ·obtain ⟨zs,rfl,e2⟩:=ints_of r1 rv'
  have hsz:0 < zs.toArray.size:=by
   cases zs with
   | nil=>exact absurd e2.symm hne
   | cons _ _=>simp
  refine min_intList (I.ok.hd hc) (int_list p) hsz fun v h' tk hv kk=>?_;obtain ⟨t,rfl⟩:=intItems_at hv;obtain ⟨h1,h2⟩:=argBest_lt (numAt zs.toArray) (zs.toArray.size - 1);refine ⟨.int _,H,I.kept kk,⟨t,rfl⟩,k _ H _ G (.refl H) (.int _) g (q' _ (abG e2 (by omega)) fun a ha=>?_)⟩;obtain ⟨j,hj,rfl⟩:=abH e2 ha;exact h2 j (by omega)
 ·exact aAA hc pins s σ H _ vs us G R Q I rx rv g z k
end
end
variable {v u:Value}{ys:List D}{vx vy:V}{Q:VK}
section
noncomputable def ok2 (G:Gp) (x y:D):Bool:=match x,y with
 | .ref p,.ref q=>(match aL G p,aL G q with
  | some xs,some ys=>xs.all (aP 17)&&ys.all (aP 17)
  | _,_=>false)
 | x,y=>aP 18 x&&aP 18 y
noncomputable def eq2 (G:Gp) (x y:D):Bool:=match x,y with
 | .ref p,.ref q=>(match aL G p,aL G q with
  | some xs,some ys=>jU xs ys
  | _,_=>false)
 | x,y=>eqP x y
noncomputable def a6P (G:Gp):List D->List D->Bool
 | x :: xs,y :: ys=>ok2 G x y&&a6P G xs ys
 | _,_=>true
noncomputable def vU (G:Gp):List D->List D->Bool
 | [],[]=>true
 | x :: xs,y :: ys=>eq2 G x y&&vU G xs ys
 | _,_=>false
noncomputable def a3N (f:D->D->Bool) (xs ys:List D) (j:Nat):Bool:=match xs[j]?,ys[j]? with
 | some a,some b=>f a b
 | _,_=>false
theorem pU (G:Gp):∀ (xs ys:List D),vU G xs ys=((dh (min xs.length ys.length)).all (a3N (eq2 G) xs ys)&&xs.length == ys.length)
 | [],[]=>rfl
 | [],y :: ys=>by simp [vU]
 | x :: xs,[]=>by simp [vU]
 | x :: xs,y :: ys=>by
  have ih:=pU G xs ys;have e:min (x :: xs).length (y :: ys).length=min xs.length ys.length+1:=by simp only [qg];omega
  rw [vU,ih,e,rW];have e0:a3N (eq2 G) (x :: xs) (y :: ys) 0=eq2 G x y:=rfl
  have e1:(fun j=>a3N (eq2 G) (x :: xs) (y :: ys) (j+1))=a3N (eq2 G) xs ys:=by
   funext j;simp [a3N]
  have e2:((x :: xs).length == (y :: ys).length)=(xs.length == ys.length):=by
   simp only [qg];by_cases h:xs.length=ys.length
   ·simp [h]
   ·have h':¬ (xs.length+1=ys.length+1):=by omega
    simp [h,h']
  rw [e0,e1,e2,Bool.and_assoc]
theorem a6Q {G:Gp}:∀ {xs ys:List D} {j:Nat} {x y:D},a6P G xs ys=true->xs[j]?=some x->ys[j]?=some y->ok2 G x y=true
 | [],_,_,_,_,_,h,_=>by simp at h
 | _ :: _,[],_,_,_,_,_,h=>by simp at h
 | a :: xs,b :: ys,0,x,y,h,e1,e2=>by
  rw [a6P,ak] at h;simp at e1 e2;subst e1;subst e2;exact h.1
 | a :: xs,b :: ys,j+1,x,y,h,e1,e2=>by
  rw [a6P,ak] at h;exact a6Q h.2 (by simpa using e1) (by simpa using e2)
section
variable {X:Cx}
theorem ad6 {A:Around} {s:Shared} {K:Fg} {H:Hp} {f:D->D->Bool} {vx vy:List V} {ws:List Value} (rx:bV K H xs vx) (ry:bV K H ys vy) (vx':Vals vx us) (vy':Vals vy ws)
  (ih:∀ (j:Nat) (x y:D),xs[j]?=some x->ys[j]?=some y->∀ (v w:V) (u t:Value),RD K H x v->RD K H y w->RelV v u->RelV w t->SeqAt.EqAt A s u t (f x y)) :
  ∀ j (h1:j < us.toArray.size) (h2:j < ws.toArray.size),SeqAt.EqAt A s us.toArray[j] ws.toArray[j] (a3N f xs ys j):=by
 intro j h1 h2;have e1:us[j]?=some us.toArray[j]:=by simp [dj (show j < us.length by simpa using h1)]
 have e2:ws[j]?=some ws.toArray[j]:=by simp [dj (show j < ws.length by simpa using h2)]
 obtain ⟨d,x,f1,f2,f3⟩:=Vals.a8V rx vx' e1;obtain ⟨d',y,g1,g2,g3⟩:=Vals.a8V ry vy' e2;have e:a3N f xs ys j=f d d':=by simp [a3N,f1,g1]
 rw [e];exact ih j d d' f1 g1 x y _ _ f2 g2 f3 g3
theorem aiI {σ:St} {H:Hp} {s:Shared} {G:Gp} (I:Inv X pins σ H s) (g:HR X.K H G) {A:Around} {x y:D} (hu:A.units+20 < cLine) (h:ok2 G x y=true) (rx:RD X.K H x vx) (ry:RD X.K H y vy) (ru:RelV vx u) (rv:RelV vy v):SeqAt.EqAt A s u v (eq2 G x y):=by
 unfold ok2 at h;unfold eq2;split at h
 ·rename_i p q;split at h
  ·rename_i xs ys e1 e2;rw [ak] at h;cases rx;cases ry;cases ru;cases rv;obtain ⟨v1,h1,r1⟩:=bN g e1;obtain ⟨v2,h2,r2⟩:=bN g e2;by_cases hpq:p=q
   ·subst hpq;rw [e1] at e2;cases e2;rw [lG (n:=17) fun x m=>gj.mp h.1 x m];exact SeqAt.EqAt.same _
   ·exact SeqAt.EqAt.of_refs hpq (azV I 17 A h1 h2 r1 r2 (by omega) h.1 h.2)
  ·cases h
 ·rename_i hn;rw [ak] at h;exact a1E I 18 A x y vx vy u v (by omega) h.1 h.2 rx ry ru rv
def anW (G:Gp) (x y:D) (k:Bool->Prop):Prop:=match x,y with
 | .tup xs,.tup ys=>a6P G xs ys=true/\k (vU G xs ys)
 | .ref a,.ref b=>(match aL G a,aL G b with
  | some xs,some ys=>a6P G xs ys=true/\k (vU G xs ys)
  | _,_=>False)
 | _,_=>False
noncomputable def aqT:R3:=fun x y G R=>anW G x y fun b=>R (.bl b) G
noncomputable def ad7:R3:=fun x y G R=>anW G x y fun b=>R (.bl (!b)) G
theorem a94 (hu:X.A.units+64 < cLine) {neg:Bool} {op:CmpOp} (hop:op=if neg then .NotEq else .Eq) {s:Shared} {σ:St} {H:Hp} {x y:D} {G:Gp} {k:Bool->Prop} (I:Inv X pins σ H s) (rx:RD X.K H x vx) (ry:RD X.K H y vy) (ru:RelV vx u) (rv:RelV vy v) (g:HR X.K H G)
  (h:anW G x y k) (hk:∀ b,k b->EP X pins σ Q (.bool (neg ^^ b)) s):wpAny (model X.prog X.w) X.A (compareOp op u v) (EP X pins σ Q) X.xe s:=by
 have fin:∀ {b:Bool},(if neg then SeqAt.RcNeAt X.A s u v (!b) else SeqAt.RcAt X.A s u v b)->k b->wpAny (model X.prog X.w) X.A (compareOp op u v) (EP X pins σ Q) X.xe s:=fun {b} z kb=>by
  have e:=hk b kb;cases neg with
  | true =>
   subst hop;rw [Bool.true_xor] at e;exact z X.prog X.w X.xe _ e
  | false =>
   subst hop;rw [a0A] at e;exact z X.prog X.w X.xe _ e
 have hu0:X.A.units < cLine:=by omega
 have hu1:X.A.in1.units+20 < cLine:=by
  show X.A.units+1+20 < cLine;omega
 unfold anW at h;split at h
 ·rename_i ds es;obtain ⟨ok,kk⟩:=h;cases rx with
  | @tup a1 xs1 _ h1 r1 =>
   cases ry with
   | @tup a2 xs2 _ h2 r2 =>
    cases ru;cases rv;obtain ⟨its,vv,px,_⟩:=I.tuple h1;obtain ⟨jts,ww,py,_⟩:=I.tuple h2;have pts:=ad6 (f:=eq2 G) r1 r2 vv ww fun j x y e1 e2 v w u t q1 q2 q3 q4=>aiI (A:=X.A.in1) I g hu1 (a6Q ok e1 e2) q1 q2 q3 q4
    have e:((dh (min its.toArray.size jts.toArray.size)).all (a3N (eq2 G) ds es)&&its.toArray.size == jts.toArray.size)=vU G ds es:=by
     rw [pU,aq,aq,← vv.length,← ww.length,← r1.length,← r2.length]
    refine fin (b:=vU G ds es) ?_ kk;cases neg with
    | true =>
     have z:=SeqAt.RcNeAt.tuples (show s.heap.IsTuple a1 its.toArray from px) (show s.heap.IsTuple a2 jts.toArray from py) hu0 pts;rw [e] at z;exact z
    | false =>
     have z:=SeqAt.RcAt.tuples (show s.heap.IsTuple a1 its.toArray from px) (show s.heap.IsTuple a2 jts.toArray from py) hu0 pts;rw [e] at z;exact z
 ·rename_i a b;split at h
  ·rename_i ds es e1 e2;obtain ⟨ok,kk⟩:=h;cases rx;cases ry;cases ru;cases rv;obtain ⟨v1,h1,r1⟩:=bN g e1;obtain ⟨v2,h2,r2⟩:=bN g e2;obtain ⟨its,vv,q1,_⟩:=I.list h1;obtain ⟨jts,ww,q2,_⟩:=I.list h2;have p1:=q1.isList;have p2:=q2.isList;have pts:=ad6 (f:=eq2 G) r1 r2 vv ww fun j x y e1 e2 v w u t q1 q2 q3 q4=>aiI (A:=X.A.in1) I g hu1 (a6Q ok e1 e2) q1 q2 q3 q4;have s1:its.toArray.size=ds.length:=by rw [aq,← vv.length,← r1.length]
   have s2:jts.toArray.size=es.length:=by rw [aq,← ww.length,← r2.length]
   refine fin (b:=vU G ds es) ?_ kk;by_cases hl:ds.length=es.length
   ·have hsz:its.toArray.size=jts.toArray.size:=by rw [s1,s2];exact hl
    have e:(dh its.toArray.size).all (a3N (eq2 G) ds es)=vU G ds es:=by
     rw [pU,s1,hl];simp
    cases neg with
    | true =>
     have z:=SeqAt.RcNeAt.lists p1 p2 hsz hu0 pts;rw [e] at z;exact z
    | false =>
     have z:=SeqAt.RcAt.lists p1 p2 hsz hu0 pts;rw [e] at z;exact z
   ·have hne:(its.toArray.size != jts.toArray.size)=true:=by rw [s1,s2];simpa using hl
    have e:vU G ds es=false:=by
     rw [pU];have:(ds.length == es.length)=false:=by simpa using hl
     rw [this,Bool.and_false]
    rw [e];cases neg with
    | true=>exact SeqAt.RcNeAt.lists_lengths p1 p2 hne hu0
    | false=>exact SeqAt.RcAt.lists_lengths p1 p2 hne hu0
  ·exact h.elim
 ·exact h.elim
theorem aAE (hu:X.A.units+64 < cLine):mV X (compareOp .Eq) aqT:=a6E fun pins s σ H x y vx vy u v G R Q I rx ry ru rv g q k =>
 a94 (neg:=false) hu rfl I rx ry ru rv g q fun b kb=>⟨.bl b,H,I,by rw [a0A];rfl,k _ H (.bl b) G (.refl H) (.bl b) g kb⟩
theorem aAF (hu:X.A.units+64 < cLine):mV X (compareOp .NotEq) ad7:=a6E fun pins s σ H x y vx vy u v G R Q I rx ry ru rv g q k =>
 a94 (neg:=true) hu rfl I rx ry ru rv g q fun b kb=>⟨.bl (!b),H,I,by rw [Bool.true_xor];rfl,k _ H (.bl (!b)) G (.refl H) (.bl (!b)) g kb⟩
def a95 (x:D) (G:Gp) (f:Addr->List D->Prop):Prop:=match x with
 | .ref p=>(match G p with
  | some (.lst ds)=>f p ds
  | _=>False)
 | _=>False
theorem a96 {K:Fg} {H:Hp} {x:D} {G:Gp} {f:Addr->List D->Prop} (rx:RD K H x vx) (g:HR K H G) (h:a95 x G f):∃ p ds xs,x = .ref p/\vx = .ref p/\G p=some (.lst ds)/\H p=some (.lst xs)/\bV K H ds xs/\f p ds:=by
 unfold a95 at h;split at h
 ·rename_i p;split at h
  ·rename_i ds e;cases rx;obtain ⟨xs,e1,r⟩:=g p _ e;exact ⟨p,ds,xs,rfl,rfl,e,e1,r,h⟩
  ·exact h.elim
 ·exact h.elim
noncomputable def aAG:RM3:=fun x xs G R=>match xs with
 | []=>a95 x G fun p ds=>match ds[ds.length - 1]? with
  | some d=>R d (aG G p (.lst ds.dropLast))
  | none=>False
 | _=>False
noncomputable def uL:RM3:=fun x xs G R=>match xs with
 | []=>a95 x G fun p _=>R .non (aG G p (.lst []))
 | _=>False
theorem wY {K:Fg} {H:Hp}:∀ {ds:List D} {xs:List V},bV K H ds xs->bV K H ds.dropLast xs.dropLast
 | _,_,.nil => .nil
 | _,_,.cons h .nil => .nil
 | _,_,.cons h (.cons h' r) => .cons h (wY (.cons h' r))
theorem aH1:a09 X "list.pop" aAG:=a09.of atH fun H x xs vx vs G R Q rx rs g q k=>by
 cases rs with
 | cons _ _=>exact False.elim q
 | nil =>
  obtain ⟨p,ds,ys,rfl,rfl,e,e1,r,q'⟩:=a96 rx g q;split at q'
  ·rename_i d ed;obtain ⟨v,ev,rv⟩:=r.get ed;have hl:ds.length=ys.length:=r.length;refine ⟨p,ys,v,rfl,rfl,e1,by rw [← hl];exact ev,fun _=>?_⟩;have tt:Ts H (upd H p (.lst ys.dropLast)) := .turn e1 (fun _ z=>nomatch z) (fun _ _ z=>nomatch z);exact k _ _ _ _ tt (rv.mono tt) (g.turn (u := .lst ds.dropLast) tt ⟨_,aH,(wY r).mono tt⟩) q'
  ·exact q'.elim
theorem ad8:a09 X "list.clear" uL:=a09.of ahF fun H x xs vx vs G R Q rx rs g q k=>by
 cases rs with
 | cons _ _=>exact False.elim q
 | nil =>
  obtain ⟨p,ds,ys,rfl,rfl,e,e1,r,q'⟩:=a96 rx g q;refine ⟨p,ys,rfl,rfl,e1,fun _=>?_⟩;have tt:Ts H (upd H p (.lst [])) := .turn e1 (fun _ z=>nomatch z) (fun _ _ z=>nomatch z);exact k _ _ _ _ tt .non (g.turn (u := .lst []) tt ⟨_,aH,.nil⟩) q'
end
end
section
section
variable {X:Cx} {C:Addr} {bmB bmN:List Value} {B Bn newId nid initId inN:String} {x:Str} {np cpos:Pos} {e:Expr} {es:List Expr} {t:pK}
noncomputable def aiJ (C:Addr) (t:pK):cF:=fun ρ G R=>t ρ G fun ds G1=>ds.length<=sizeLine/\∀ x,G1 x=none->R (.ref x) (aG G1 x (.exn C))
theorem aiK {σ:St} {H:Hp} {s:Shared} {x:Addr} (I:Inv X pins σ H s) (hm:a0z s.heap h' x (.ref C) us) :
  ∃ o vs,H x=none/\Inv X pins σ (upd H x (.oJ o (.ext (a8N C x)))) { s with heap:=h' }/\o.data = .fields vs/\vs[2]?=some .none:=by
 obtain ⟨t,e1,_,_⟩:=hm.there;have nxH:H x=none:=ahT I.hok hm.new;refine ⟨{ cls := .ref C,data := .fields #[.ref t,.none,.none,.none,.bool false,.none] },#[.ref t,.none,.none,.none,.bool false,.none],nxH,?_,rfl,rfl⟩;generalize ho:({ cls := .ref C,data := .fields #[.ref t,.none,.none,.none,.bool false,.none] }:Obj)=o at e1;have sn:Same H (upd H x (.oJ o (.ext (a8N C x)))):=bC nxH;have nst:∀ b u,s.heap.get? b=some u->b≠x:=fun b u e z=>by subst z;rw [hm.new] at e;cases e
 refine I.call' (ch:=[]) (s':={ s with heap:=h' }) rfl ⟨fun b u e n _ _=>hm.keeps b u e,fun b u e n _ _=>⟨u.slots,hm.keeps b u e⟩,fun b u e n _=>by rw [aQ (nst b u e)];exact n,fun b u e _=>⟨u,hm.keeps b u e⟩,fun b xs z=>sn _ _ z,fun b u v z=>sn _ _ z,fun b ps z=>⟨#[],by rw [Array.append_empty];exact sn _ _ z⟩⟩ (fun b u e=>?_) I.bare fun b z=>absurd z (by simp);by_cases hb:b=x
 ·subst hb;rw [aH] at e;cases e;exact ⟨e1,⟨o,_,e1,by rw [← ho],by rw [← ho]⟩,⟨o,e1⟩,fun h1 h2 ⟨o1,w1,e1,e2,e3⟩ k=>⟨o1,w1,k _ e1,e2,e3⟩⟩
 ·rw [aQ hb] at e;exact ((I.hok.kept hm.keeps) b u e).stay (fun _ _ _ z=>z) (fun c z=>sn _ _ z) fun c xs z=>sn _ _ z
theorem a97 {σ:St} {H:Hp} {s:Shared} {G:Gp} (Fn:ExcBaseFacts Bn newId inN bmN) (hBn:bmB.contains (.type Bn)=true) (FB:ExcBaseFacts B nid initId bmB) (hq:uq X.K C bmB newId=true) (I:Inv X pins σ H s) (g:HR X.K H G) (hl:us.length<=sizeLine) (q:∀ x,G x=none->R (.ref x) (aG G x (.exn C)))
  (k:∀ v H' d G',Ts H H'->RD X.K H' d v->HR X.K H' G'->R d G'->Q v H'):wpAny (model X.prog X.w) X.A (call (.ref C) us) (EP X pins σ Q) X.xe s:=by
 obtain ⟨tl,N,nm,q',bs,hdct,sn,sub,ab,col,dd',k0,k1,k2,k3,k5,mN,hC,hN,hni,T⟩:=a0E I.mod.kin hq;obtain ⟨h,g0,d0,t0,os0⟩:=s;refine wpAny_call_exc_subU (hrest:=hl) Fn hBn FB (T.keeps I.bk) (I.bk _ _ hC) (hN.keeps I.bk) hni fun h' x hm=>?_;obtain ⟨o,vs,nx,J,d1,d2⟩:=aiK I hm;have sn:Same H (upd H x (.oJ o (.ext (a8N C x)))):=bC nx;exact ⟨.ref x,_,J,rfl,k _ _ _ _ (.same sn) (.ref x) (g.put (u := .exn C) nx ⟨o,vs,aH,d1,d2⟩) (q x (lR (K:=X.K) g nx (uV (X:=X) J)))⟩
theorem aAH (Fn:ExcBaseFacts Bn newId inN bmN) (hBn:bmB.contains (.type Bn)=true) (FB:ExcBaseFacts B nid initId bmB) (hg:Gl X x) (hm:X.mg x=some (.ref C)) (hq:uq X.K C bmB newId=true) (ha:PA3 X (e :: es) t) (hd:(x == ("__debug__" : Str))=false)
  (he:starEach (e :: es) X.env=(false,eval e X.env) :: starEach es X.env) (hpl:(backTo cpos (starEach es X.env)).any (·.1)=false):cM X (.Call (.Name x np) (e :: es) [] cpos) (aiJ C t):=by
 intro pins s σ H Q I h _tk;obtain ⟨ρ,G,R,sr,g,q,kk⟩:=h;obtain ⟨tl,N,nm,q',bs,hdct,sn,sub,ab,col,dd',k0,k1,k2,k3,k5,mN,hC,hN,hni,T⟩:=a0E I.mod.kin hq;refine wpAny_Call_ofName (mY I hg hm ?_ hd);unfold callWith;have hA:=ha cpos pins s σ H (fun vs H1=>Ts H H1/\∃ ds G1,bV X.K H1 ds vs/\HR X.K H1 G1/\ds.length<=sizeLine/\∀ x,G1 x=none->R (.ref x) (aG G1 x (.exn C))) I ⟨ρ,G,_,sr,g,q,fun vs H1 ds G1 t1 r1 g1 q1=>⟨t1,ds,G1,r1,g1,q1.1,q1.2⟩⟩;have hp2:(backTo cpos (starEach (e :: es) X.env)).any (·.1)=false:=by rw [he];show (false || (backTo cpos (starEach es X.env)).any (·.1))=false;rw [hpl];rfl
 rw [he] at hA hp2 ⊢;refine aj (wpAny_holding (Calls.evalArgs_plain (cL hA fun us s2 ⟨vs,H2,I2,r2,t1,ds,G1,r1,g1,hl,q1⟩=>aj (wpAny_standAt ?_))));have hl2:us.length<=sizeLine:=by rw [← r2.length,← r1.length];exact hl
 simp only [hp2];obtain ⟨h0,g0,d0,t0,os0⟩:=s2;refine aj (wpAny_keeperOf_exc (I2.bk _ _ hC) ?_);refine aj (cL (a97 Fn hBn FB hq I2 g1 hl2 q1 fun v H' d G' t3=>kk v H' d G' (t1.trans t3)) fun v s3 q3=>aj (wpAny_holding (wpAny_point (bh q3))))
theorem auY (Fn:ExcBaseFacts Bn newId inN bmN) (hBn:bmB.contains (.type Bn)=true) (FB:ExcBaseFacts B nid initId bmB) (hg:Gl X x) (hm:X.mg x=some (.ref C)) (hq:uq X.K C bmB newId=true) (hd:(x == ("__debug__" : Str))=false):cM X (.Call (.Name x np) [] [] cpos) (aiJ C aD):=by
 intro pins s σ H Q I h _tk;obtain ⟨ρ,G,R,sr,g,⟨hl,q⟩,kk⟩:=h;obtain ⟨tl,N,nm,q',bs,hdct,sn,sub,ab,col,dd',k0,k1,k2,k3,k5,mN,hC,hN,hni,T⟩:=a0E I.mod.kin hq;refine wpAny_Call_ofName (mY I hg hm ?_ hd);unfold callWith;refine aj (wpAny_holding (PySem.evalArgs_none (aj (wpAny_standAt ?_))));obtain ⟨h0,g0,d0,t0,os0⟩:=s;refine aj (wpAny_keeperOf_exc (I.bk _ _ hC) ?_);refine aj (cL (a97 (us:=[]) Fn hBn FB hq I g (je _) q kk) fun v s3 q3=>aj (wpAny_holding (wpAny_point (bh q3))))
end
end
section
section
variable {X:Cx} {o e value:Expr} {f:Str} {C:Addr} {pos pos':Pos} {ta tv:cF}
end
section
variable {X:Cx} {qt:Bool} {k:Nat} {f C:Addr} {fd:FuncData} {ps:List Str} {sp:iT} {EX:aN->aV} {x m:Str} {p pos apos:Pos} {o e:Expr} {es:List Expr} {t:pK} {ta:cF} {dd:List D} {wJ:List V} {ds:List Value}
noncomputable def abI (C:Addr) (sp:iT) (dd:List D) (EX:aN->aV) (t:pK):cF:=fun ρ G R=>t ρ G fun ds G1=>∀ x,G1 x=none->sp (.ref x :: (ds++dd)) (aG G1 x (.ins C [])) (fun v G2=>v = .non/\R (.ref x) G2) (EX ρ)
theorem a4V {σ:St} {H:Hp} {s:Shared} {G:Gp} {oN:List D} (M:Mk X.K C f) (F:cI qt X.prog X.w X.K X.mg X.base (jB X.prog X.w) k f fd ps (cZ X.K sp)) (hr:cR qt (k+1) X.A) (hb:Binds X.K fd ps ds) (hd:Vals wJ ds) (hdd:∀ H,bV X.K H dd wJ) (hx:Cat X EX)
  (I:Inv X pins σ H s) (sr:SR X.K H ρ σ) (g:HR X.K H G) (r:Vals vs us) (r2:bV X.K H oN vs) (h:∀ x,G x=none->sp (.ref x :: (oN++dd)) (aG G x (.ins C [])) (fun v G2=>v = .non/\R (.ref x) G2) (EX ρ))
  (hQ:∀ v H' d G',Ts H H'->RD X.K H' d v->HR X.K H' G'->R d G'->Q v H'):wpAny (model X.prog X.w) X.A (call (.ref C) us) (EP X pins σ Q) X.xe s:=by
 have n1:H (s.heap.objs.size+1)=none:=I.hok.fresh (Nat.le_succ _);have n0:H s.heap.objs.size=none:=I.hok.fresh (au _);have ne:s.heap.objs.size+1≠s.heap.objs.size:=Nat.succ_ne_self _;have I2:=Inv.made (C:=C) I
 have kl:X.K.lookup (s.heap.objs.size+1)=none:=by
  cases q:X.K.lookup (s.heap.objs.size+1) with
  | none=>rfl
  | some u=>have:=uV I2 _ u q;rw [aH] at this;cases this
 have gn:G (s.heap.objs.size+1)=none:=lR (o := .ins C s.heap.objs.size []) g n1 fun b u e=>by
  by_cases c:b=s.heap.objs.size+1
  ·subst c;rw [kl] at e;cases e
  ·rw [aQ c];exact uV I b u e
 have t1:Ts H (upd H s.heap.objs.size (.own (s.heap.objs.size+1))) := .same (bC n0);have n1':upd H s.heap.objs.size (.own (s.heap.objs.size+1)) (s.heap.objs.size+1)=none:=by rw [aQ ne];exact n1
 have t2:Ts (upd H s.heap.objs.size (.own (s.heap.objs.size+1))) (upd (upd H s.heap.objs.size (.own (s.heap.objs.size+1))) (s.heap.objs.size+1) (.ins C s.heap.objs.size [])) := .same (bC n1');have g1:HR X.K (upd H s.heap.objs.size (.own (s.heap.objs.size+1))) G:=g.same (bC n0);have g2:HR X.K (upd (upd H s.heap.objs.size (.own (s.heap.objs.size+1))) (s.heap.objs.size+1) (.ins C s.heap.objs.size [])) (aG G (s.heap.objs.size+1) (.ins C [])):=g1.put n1' ⟨s.heap.objs.size,[],aH,.nil⟩
 have hq:cZ X.K sp (V.ref (s.heap.objs.size+1) :: (vs++wJ)) (upd (upd H s.heap.objs.size (.own (s.heap.objs.size+1))) (s.heap.objs.size+1) (.ins C s.heap.objs.size [])) (fun v H'=>v = .non/\∃ G',HR X.K H' G'/\R (.ref (s.heap.objs.size+1)) G') (a1A X.K (EX ρ)) :=
  ⟨.ref (s.heap.objs.size+1) :: (oN++dd),_,_,EX ρ,.cons (.ref _) (((r2.mono t1).mono t2).append (hdd _)),g2,h _ gn,fun v H' d G' r3 g3 q3=>by
   obtain ⟨rfl,q3⟩:=q3;cases r3;exact ⟨rfl,G',g3,q3⟩,fun C H' G' g' q'=>⟨C,G',rfl,g',q'⟩⟩
 have rr:Vals (V.ref (s.heap.objs.size+1) :: (vs++wJ)) (Value.ref (s.heap.objs.size+1) :: (us++ds)) := .cons rfl (r.append hd)
 have hl:(Value.ref (s.heap.objs.size+1) :: us++ds).length=ps.length:=by
  have e:=rr.length;rw [F.len _ _ _ _ hq] at e;exact e.symm
 refine wpAny_call (ah2 (f:=f) I.kIn M.makes M.init (beq_iff_eq.mp M.fn) (codeAny_mono (F.run _ X.stack _ _ ⟨Value.ref (s.heap.objs.size+1) :: us,[]⟩ (Value.ref (s.heap.objs.size+1) :: (us++ds)) _ _ _ (hr.make C us [])
  (I2.env0.make C us []) (hb _ (Value.ref (s.heap.objs.size+1) :: us) I2.kIn hl) rr hq) fun r s' hq'=>?_))
 cases r with
 | error e=>exact hx.a8Q pins σ _ _ ρ e s' I2 ((sr.mono t1).mono t2) hq'
 | ok fl =>
  cases fl with
  | ret u =>
   obtain ⟨v,H',os,bare,un,hok,rv,ev,G',g3,q3⟩:=hq';subst ev;exact ⟨rv,⟨V.ref (s.heap.objs.size+1),H',I2.call' (ch:=[]) os un hok bare (fun b z=>absurd z (by simp)),rfl,hQ _ H' (.ref _) G' ((t1.trans t2).trans ⟨un.tups,un.eZ⟩) (.ref _) g3 q3⟩⟩
  | next=>exact False.elim hq'
  | brk=>exact False.elim hq'
  | cont=>exact False.elim hq'
theorem anY (M:Mk X.K C f) (F:cI qt X.prog X.w X.K X.mg X.base (jB X.prog X.w) k f fd ps (cZ X.K sp)) (hr:cR qt (k+1) X.A) (hg:Gl X x) (hm:X.mg x=some (.ref C)) (hb:Binds X.K fd ps ds) (hd:Vals wJ ds) (hdd:∀ H,bV X.K H dd wJ) (hx:Cat X EX)
  (ha:PA3 X (e :: es) t) (hdb:(x == ("__debug__" : Str))=false) (he:starEach (e :: es) X.env=(false,eval e X.env) :: starEach es X.env) (hpl:(backTo pos (starEach es X.env)).any (·.1)=false) :
  cM X (.Call (.Name x p) (e :: es) [] pos) (abI C sp dd EX t):=by
 intro pins s σ H Q I h _tk;obtain ⟨ρ,G,R,sr,g,q,kk⟩:=h;refine wpAny_Call_Name_kw (mY I hg hm ?_ hdb);refine PySem.W.callWith_K (h₀:=X.base) I.ok.mod.kin M.kp (cL (ha pos pins s σ H (fun vs H1=>Ts H H1/\∃ ds G1,bV X.K H1 ds vs/\HR X.K H1 G1/\∀ x,G1 x=none->sp (.ref x :: (ds++dd)) (aG G1 x (.ins C [])) (fun v G2=>v = .non/\R (.ref x) G2) (EX ρ)) I ⟨ρ,G,_,sr,g,q,fun vs H1 ds G1 t1 r1 g1 q1=>⟨t1,ds,G1,r1,g1,q1⟩⟩) fun us s1 ⟨vs,H1,I1,r,t1,ds,G1,r1,g1,q1⟩=>⟨I1.kIn,?_⟩) he hpl;exact a4V M F hr hb hd hdd hx I1 (sr.mono t1) g1 r r1 q1 fun v H' d G' t2=>kk v H' d G' (t1.trans t2)
theorem aiL (M:Mk X.K C f) (F:cI qt X.prog X.w X.K X.mg X.base (jB X.prog X.w) k f fd ps (cZ X.K sp)) (hr:cR qt (k+1) X.A) (hg:Gl X x) (hm:X.mg x=some (.ref C)) (hb:Binds X.K fd ps ds) (hd:Vals wJ ds) (hdd:∀ H,bV X.K H dd wJ) (hx:Cat X EX)
  (hdb:(x == ("__debug__" : Str))=false):cM X (.Call (.Name x p) [] [] pos) (abI C sp dd EX aD):=by
 intro pins s σ H Q I h _tk;obtain ⟨ρ,G,R,sr,g,q,kk⟩:=h;refine wpAny_Call_Name_kw (mY I hg hm ?_ hdb);exact PySem.W.callWith_K0 I.kIn M.kp (a4V (us:=[]) (vs:=[]) (oN:=[]) M F hr hb hd hdd hx I sr g .nil .nil q fun v H' d G' t2=>kk v H' d G' t2)
end
end
variable {t':Nat}{ch:List Addr}
section
section
variable {X:Cx} {pins:List (Addr×Obj)} {σ:St} {H:Hp} {s:Shared} {h':Heap}
theorem Inv.a6R (I:Inv X pins σ H s) (k:∀ b u,b ∉ ch->s.heap.get? b=some u->h'.get? b=some u) (hc:∀ b∈ch,j8 X pins H b):Inv X pins σ H { s with heap:=h',toks:=t' }:=by
 have nit:∀ b u,H b=some u->b ∉ ch:=fun b u e z=>by rw [(hc b z).1] at e;cases e
 refine I.step (g':=s.gens) (d':=s.drawn) (ch:=ch) (fun b hb=>?_) (fun b o _ _ hn e _=>k b o hn e) (fun b o _ _ hn e _=>⟨o.slots,k b o hn e⟩) (fun _ _ _ _ n=>n) (fun b o hn e=>⟨o,k b o hn e⟩) (fun _ _ e=>e) (fun _ _ _ e=>e) (fun b ps e=>⟨#[],by rw [e];simp⟩) (fun m hm=>?_) (fun b u e=>?_) I.bare
 ·obtain ⟨_,f1,_,f3,f4,f5⟩:=hc b hb;exact ⟨f3,f1,f4,f5⟩
 ·obtain ⟨o,es,ep,ho,r⟩:=hm;exact ⟨o,es,ep,k _ o (fun z=>(hc _ z).2.1 rfl) ho,r⟩
 ·refine (I.hok b u e).stay (fun c v hcc q=>k c v ?_ q) (fun _ q=>q) fun _ _ q=>q;rcases hcc with z | z
  ·rw [z];exact nit b u e
  ·exact nit c _ z
theorem Inv.afT {a:Addr} {o:HO} (I:Inv X pins σ H s) (k:∀ b u,b ∉ ch->s.heap.get? b=some u->h'.get? b=some u) (hc:∀ b∈ch,j8 X pins H b) (ha:s.heap.objs.size<=a) (new:iR X.prog X.w (upd H a o) h' a o):Inv X pins σ (upd H a o) { s with heap:=h',toks:=t' }:=by
 have nit:∀ b u,H b=some u->b ∉ ch:=fun b u e z=>by rw [(hc b z).1] at e;cases e
 have fr:H a=none:=I.hok.fresh ha;have sn:Same H (upd H a o):=bC fr;have na:∀ b u,s.heap.get? b=some u->b≠a:=fun b u e z=>absurd (cu (cg e) (z ▸ ha)) (jq _);refine I.step (g':=s.gens) (d':=s.drawn) (ch:=ch) (fun b hb=>?_) (fun b o _ _ hn e _=>k b o hn e) (fun b o _ _ hn e _=>⟨o.slots,k b o hn e⟩) (fun b u _ e n=>by rw [aQ (na b u e)];exact n) (fun b o hn e=>⟨o,k b o hn e⟩) (fun b xs e=>sn _ _ e) (fun b o u e=>sn _ _ e) (fun b ps e=>⟨#[],by rw [sn _ _ e];simp⟩) (fun m hm=>?_) (fun b u e=>?_) I.bare
 ·obtain ⟨_,f1,_,f3,f4,f5⟩:=hc b hb;exact ⟨f3,f1,f4,f5⟩
 ·obtain ⟨o,es,ep,ho,r⟩:=hm;exact ⟨o,es,ep,k _ o (fun z=>(hc _ z).2.1 rfl) ho,r⟩
 ·by_cases hb:b=a
  ·subst hb;rw [aH] at e;cases e;exact new
  ·rw [aQ hb] at e;refine (I.hok b u e).stay (fun c v hcc q=>k c v ?_ q) (fun _ q=>sn _ _ q) fun _ _ q=>sn _ _ q;rcases hcc with z | z
   ·rw [z];exact nit b u e
   ·exact nit c _ z
end
theorem wZ:(prs xs ys).length=min xs.length ys.length:=by simp [prs]
noncomputable def aH4 (ta:pK):TI3:=fun ρ G R=>ta ρ G fun xs G1=>match xs with
 | [.ref p,.ref q]=>(match aL G1 p,aL G1 q with
  | some xs,some ys=>R (.zip p q xs ys) G1
  | _,_=>False)
 | _=>False
section
variable {X:Cx} {es:List Expr} {kt:Nat} {pt:Pos}
end
section
variable {prog:Program} {w:World} {A:Around} {R:Result->Shared->Prop} {I:Addr} {fp wr:List Addr} {n:Nat} {P:Nat->Value->Prop} {St:Nat->Heap->Prop} {kw:List (Str×Value)}
theorem aiM (W:Walks prog w A.in1 I fp wr n P St) (bt:Nat->Nat->Bool) (hcmp:CmpOf prog w A.in1 .Gt P bt) (S:Addr) (hSf:S ∉ fp):∀ (k j:Nat) (s:Shared) (vb:Value) (c:Nat),n - (j+1)=k->j+1<=n->St (j+1) s.heap->P (argBest bt j) vb ->
   s.heap.get? S=some { cls := .type "list",dict:=none,data := .seq #[vb,vb] c,slots:=#[] }->(∀ v h' tk,P (argBest bt (n - 1)) v->(∀ b o,b ∉ wr->b≠S->s.heap.get? b=some o->h'.get? b=some o)->R (.ok (.ret v)) { s with heap:=h',toks:=tk }) ->
   codeAny (model prog w) A (.builtin "max.loop" ⟨[.ref I,.none,.ref S],kw⟩) R s:=by
 have nw:S ∉ wr:=fun h=>hSf (W.sub _ h);have nm:(toString "max" ++ toString ".loop" : String) = "max.loop" := by decide
 intro k;induction k with
 | zero =>
  intro j s vb c hk hj hst hb hS hR;have hn:j+1=n:=by omega
  refine codeAny_builtin F.entry_max_loop ?_;rw [Around.under_plainId F.plain_max_loop _];show wpAny _ A.in1 (seqItems? (.ref S) >>= _) _ _ s;refine aj (wpAny_seqItems hS rfl ?_);show wpAny _ A.in1 (tryCatch (pyNext (.ref I)) _ >>= _) _ _ s;refine aj (wpAny_tryCatch (W.done s _ _ (hn ▸ hst) fun h' tk hk'=>?_));have z:=hk' S _ nw hS;show wpAny _ A.in1 (updateSeq S (fun _=>#[]) >>= _) _ _ _;refine aj ?_;refine wpAny_updateSeq z rfl (aj (wpAny_letGo (bh (hR vb _ tk (by rw [← hn];exact hb) fun b o h1 h2 e=>?_))));exact (ou _ _ (Ne.symm h2)).trans (hk' b o h1 e)
 | succ k ih =>
  intro j s vb c hk hj hst hb hS hR;have hn:j+1 < n:=by omega
  refine codeAny_builtin F.entry_max_loop ?_;rw [Around.under_plainId F.plain_max_loop _];show wpAny _ A.in1 (seqItems? (.ref S) >>= _) _ _ s;refine aj (wpAny_seqItems hS rfl ?_);show wpAny _ A.in1 (tryCatch (pyNext (.ref I)) _ >>= _) _ _ s;refine aj (wpAny_tryCatch (W.item (j+1) s _ _ hn hst fun v h' tk hP hst' hk'=>?_));have z:=hk' S _ nw hS;show wpAny _ A.in1 (tryCatch (holding [v,v] (richCompare .Gt v vb >>= _)) _ >>= _) _ _ _;refine aj (wpAny_tryCatch (wpAny_holding (aj (hcmp (j+1) (argBest bt j) v vb _ _ _ hP hb ?_))));refine aj (wpAny_holding (wpAny_truthy_bool (aj (wpAny_letGo (bh ?_)))));cases e:bt (j+1) (argBest bt j) with
  | true =>
   simp only [if_true];refine aj ?_;refine wpAny_updateSeq z rfl (aj (wpAny_letGo ?_));rw [nm];refine bh ⟨plainId_quiet F.plain_max_loop _,ih (j+1) _ v _ (by omega) hn (W.frame _ _ _ hst' fun b hbf o e=>?_) (by simp only [argBest,e,if_true];exact hP) (yp _ z rfl) fun v' h2 tk2 hP' hk2=>hR v' h2 tk2 hP' fun b o h1 h3 e=>?_⟩
   ·exact (ou _ _ (fun h:S=b=>hSf (by rw [h];exact hbf))).trans e
   ·exact hk2 b o h1 h3 ((ou _ _ (Ne.symm h3)).trans (hk' b o h1 e))
  | false =>
   simp only [fj,if_false];refine aj (wpAny_letGo ?_);rw [nm];refine bh ⟨plainId_quiet F.plain_max_loop _,ih (j+1) _ vb c (by omega) hn hst' (by simp only [argBest,e,fj,if_false];exact hb) z fun v' h2 tk2 hP' hk2=>hR v' h2 tk2 hP' fun b o h1 h3 e=>hk2 b o h1 h3 (hk' b o h1 e)⟩
theorem afU (W:Walks prog w A.in1 I fp wr n P St) (bt:Nat->Nat->Bool) (hcmp:CmpOf prog w A.in1 .Gt P bt) (S:Addr) (hSf:S ∉ fp) {s:Shared} {c:Nat} {kn:Str} {d:Value} {kr:List (Str×Value)} (hst:St 0 s.heap) (hS:s.heap.get? S=some { cls := .type "list",dict:=none,data := .seq #[] c,slots:=#[] })
  (h0:n=0->∀ h' tk,(∀ b o,b ∉ wr->b≠S->s.heap.get? b=some o->h'.get? b=some o)->R (.ok (.ret d)) { s with heap:=h',toks:=tk })
  (hR:0 < n->∀ v h' tk,P (argBest bt (n - 1)) v->(∀ b o,b ∉ wr->b≠S->s.heap.get? b=some o->h'.get? b=some o)->R (.ok (.ret v)) { s with heap:=h',toks:=tk }) :
  codeAny (model prog w) A (.builtin "max.loop" ⟨[.ref I,.none,.ref S],(kn,d) :: kr⟩) R s:=by
 have nw:S ∉ wr:=fun h=>hSf (W.sub _ h);have nm:(toString "max" ++ toString ".loop" : String) = "max.loop" := by decide
 refine codeAny_builtin F.entry_max_loop ?_;rw [Around.under_plainId F.plain_max_loop _];show wpAny _ A.in1 (seqItems? (.ref S) >>= _) _ _ s;refine aj (wpAny_seqItems hS rfl ?_);show wpAny _ A.in1 (tryCatch (pyNext (.ref I)) _ >>= _) _ _ s;by_cases hn:0 < n
 ·refine aj (wpAny_tryCatch (W.item 0 s _ _ hn hst fun v h' tk hP hst' hk'=>?_));have z:=hk' S _ nw hS;show wpAny _ A.in1 (updateSeq S (fun _=>#[v,v]) >>= _) _ _ _;refine aj ?_;refine wpAny_updateSeq z rfl ?_;rw [nm];refine bh ⟨plainId_quiet F.plain_max_loop _,aiM W bt hcmp S hSf _ 0 _ v _ rfl hn (W.frame _ _ _ hst' fun b hbf o e=>?_) hP (yp _ z rfl) fun v' h2 tk2 hP' hk2=>hR hn v' h2 tk2 hP' fun b o h1 h3 e=>?_⟩
  ·exact (ou _ _ (fun h:S=b=>hSf (by rw [h];exact hbf))).trans e
  ·exact hk2 b o h1 h3 ((ou _ _ (Ne.symm h3)).trans (hk' b o h1 e))
 ·have n0:n=0:=by omega
  refine aj (wpAny_tryCatch (W.done s _ _ (by rw [n0];exact hst) fun h' tk hk'=>?_));exact aj (wpAny_rule (bh (h0 n0 h' tk fun b o h1 _ e=>hk' b o h1 e)))
end
theorem aiN (a v:Value):argsOk "max" ⟨[a],[(Str.ofString "default",v)]⟩:=by unfold argsOk;kernel_rfl
theorem aiO {prog:Program} {w:World} {A:Around} {E:Value->Shared->Prop} {s:Shared} {l:Addr} {xs:Array (Int×Tok)} {d:Value} {Q:Value->Shared->Prop} (hh:A.handled=none) (hl:s.heap.IsList l (intItems xs))
  (h0:xs.size=0->∀ h' tk,(∀ b o,s.heap.get? b=some o->h'.get? b=some o)->Q d { s with heap:=h',toks:=tk })
  (h:0 < xs.size->∀ v h' tk,(intItems xs)[argBest (fun i j=>decide (numAt xs i > numAt xs j)) (xs.size - 1)]?=some v->(∀ b o,s.heap.get? b=some o->h'.get? b=some o)->Q v { s with heap:=h',toks:=tk }) :
  wpAny (model prog w) A (call (.builtin "max") [.ref l] [(Str.ofString "default",d)]) Q E s:=by
 have nm:(toString "max" ++ toString ".loop" : String) = "max.loop" := by decide
 have sz:(intItems xs).size=xs.size:=by simp [intItems]
 refine kmk_tree F.kind_max F.plain_max F.entry_max (aiN _ _) ?_;show wpAny _ A.in1 (Builtin.Builtins.bindParams "max" ["key", "default"] 0 ⟨[],[(Str.ofString "default",d)]⟩ >>= _) _ _ s;refine aj (wpAny_of_eq (show Builtin.Builtins.bindParams "max" ["key", "default"] 0 ⟨[],[(Str.ofString "default",d)]⟩=pure [none,some d] from rfl) ?_);refine aj (bh (aj (iter_intList hl fun s₂ e st hfp hlI=>?_)));subst e;refine aj (wpAny_newObj_type ?_);rw [nm];have W:=Walks.list (prog:=prog) (w:=w) (A:=A.in1) hh s.heap.objs.size l hlI (intItems xs);refine bh ⟨plainId_quiet F.plain_max_loop _,afU W _ (CmpOf.ints_gt (numAt xs) (fun _ _=>intItems_at)) _ (fun hm=>jq _ (hfp _ hm)) (W.frame _ _ _ st fun b _ o e=>ao _ e) (dw _ rfl) (fun n0 h' tk hk=>?_) fun n0 v h' tk hP hk=>?_⟩
 ·refine h0 (by rw [← sz];exact n0) h' tk (old_kept (l:=l) fun b o hbw e=>hk b o hbw (gk (cg e)) (ao _ e))
 ·refine h (by rw [← sz];exact n0) v h' tk (by rw [sz] at hP;exact hP) (old_kept (l:=l) fun b o hbw e=>hk b o hbw (gk (cg e)) (ao _ e))
def sJ (x d:D) (G:Gp) (R:dX):Prop:=match x with
 | .ref p=>(match aL G p with
  | some ds=>∃ ns:List Int,ds=ns.map D.int/\(ns=[]->R d G)/\∀ M,M∈ns->(∀ a∈ns,a<=M)->R (.int M) G
  | none=>False)
 | _=>False
noncomputable def ad9 (te td:cF):cF:=fun ρ G R=>te ρ G fun x G1=>td ρ G1 fun d G2=>sJ x d G2 R
section
variable {X:Cx} {x:Str} {p pos kp:Pos} {e d:Expr} {te td:cF}
theorem auZ (hc:X.calm=true) (hg:Gl X x) (hm:X.mg x=none) (hv:bootBuiltins x=some (.builtin "max")) (he:cM X e te) (hd:cM X d td) (hn:x ≠ "__name__") (hdb:(x == ("__debug__" : Str))=false)
  (hs:starEach [e] X.env=[(false,eval e X.env)]):cM X (.Call (.Name x p) [e] [⟨some "default",d,kp⟩] pos) (ad9 te td):=by
 intro pins s σ H Q I h _tk;obtain ⟨ρ,G,R,sr,g,q,kk⟩:=h;refine wpAny_Call_Name_kw (rG I hg hm hv ?_ hn hdb)
 have hA:=(rQ he a4L (by rw [hs];rfl)) pos pins s σ H (fun vs H1=>Ts H H1/\∃ ds G1,bV X.K H1 ds vs/\HR X.K H1 G1/\(match ds with
  | [y]=>td ρ G1 fun d G2=>sJ y d G2 R
  | _=>False)) I ⟨ρ,G,(fun ds G1=>match ds with
  | [y]=>td ρ G1 fun d G2=>sJ y d G2 R
  | _=>False),sr,g,q,fun vs H1 ds G1 t1 r1 g1 q1=>⟨t1,ds,G1,r1,g1,q1⟩⟩
 refine callWith_kw (cL hA fun us s1 ⟨vs,H1,I1,rr,t1,ds,G1,r1,g1,q1⟩=>?_) (by rw [hs];rfl) (by rw [hs];rfl) rfl rfl;split at q1
 ·rename_i y;cases r1 with
  | @cons _ vy _ _ ry rn =>
   cases rn;cases rr with
   | @cons _ uy _ _ ru rn =>
    cases rn;refine cL (acP (nm:=some "default") (kpos:=kp) hd ah4 pos pins s1 σ H1 (fun zs H2=>Ts H H2/\Ts H1 H2/\∃ z G2 dz,zs=[z]/\RD X.K H2 dz z/\HR X.K H2 G2/\sJ y dz G2 R) I1 ⟨ρ,G1,_,sr.mono t1,g1,q1,fun v H2 dz G2 t2 r2 g2 q2=>⟨t1.trans t2,t2,v,G2,dz,rfl,r2,g2,q2⟩⟩) fun kvs s2 ⟨zs,H2,I2,rz,tt,t2,z,G2,dz,e,r2,g2,q2⟩=>?_;subst e;cases rz with
    | @cons _ kv _ _ rk rn =>
     cases rn;show wpAny _ _ (call (.builtin "max") [uy] [(Str.ofString "default",kv)]) _ _ s2;unfold sJ at q2;split at q2
     ·rename_i l;split at q2
      ·rename_i ds e1;obtain ⟨ns,rfl,h0,h1⟩:=q2;cases ry;cases ru;obtain ⟨ys,hq,r3⟩:=bN g2 e1;obtain ⟨its,rv',pl,_⟩:=I2.list hq;obtain ⟨zs,rfl,e2⟩:=ints_of r3 rv';refine aiO (I2.ok.hd hc) (int_list pl.isList) (fun n0 h' tk kp=>?_) fun n0 v h' tk hv kp=>?_
       ·have:ns=[]:=by
         rw [← e2];cases zs with
         | nil=>rfl
         | cons _ _=>simp at n0
        exact ⟨z,H2,I2.kept kp,rk,kk _ H2 _ G2 tt r2 g2 (h0 this)⟩
       ·obtain ⟨t,rfl⟩:=intItems_at hv;obtain ⟨_,h2⟩:=argBest_gt (numAt zs.toArray) (zs.toArray.size - 1);refine ⟨.int _,H2,I2.kept kp,⟨t,rfl⟩,kk _ H2 _ G2 tt (.int _) g2 (h1 _ (abG e2 (by omega)) fun a ha=>?_)⟩;obtain ⟨j,hj,rfl⟩:=abH e2 ha;exact h2 j (by omega)
      ·exact q2.elim
     ·exact q2.elim
 ·exact q1.elim
end
end
variable {kvs:List (DK×D)}
section
noncomputable def aAI:DK->Bool
 | .inl _=>false
 | .inr _=>true
section
variable {κ:Type} [DecidableEq κ] {α:Type}
noncomputable def z7:List (κ×α)->κ->Option α
 | [],_=>none
 | p :: r,k=>if p.1=k then some p.2 else z7 r k
noncomputable def av0 (kvs:List (κ×α)) (k:κ) (v:α):List (κ×α):=if (z7 kvs k).isSome=true then kvs.map (fun kv=>if kv.1=k then (kv.1,v) else kv) else kvs++[(k,v)]
end
noncomputable abbrev a3O {κ:Type} (K:Fg) (H:Hp) (f:κ->DK):List (DK×D)->List (κ×V)->Prop:=Two fun p q=>p.1=f q.1/\RD K H p.2 q.2
variable {v:V}
section
variable {κ:Type} [DecidableEq κ] {K:Fg} {H:Hp} {f:κ->DK}
theorem val_two (hf:∀ a b,f a=f b->a=b) {k:κ}:∀ {kvs:List (DK×D)} {xs:List (κ×V)},a3O K H f kvs xs->(∀ d,z7 kvs (f k)=some d->∃ v,vL xs k=some v/\RD K H d v)/\(z7 kvs (f k)=none->vL xs k=none)
 | _,_,.nil=>⟨fun d e=>(nomatch e),fun _=>rfl⟩
 | p :: kvs,q :: xs,.cons h r=>by
  obtain ⟨h1,h2⟩:=h;by_cases c:q.1=k
  ·have c2:p.1=f k:=by rw [h1,c]
   unfold z7;rw [if_pos c2,wL c];exact ⟨fun d e=>by cases e;exact ⟨_,rfl,h2⟩,fun e=>(nomatch e)⟩
  ·have c2:¬ p.1=f k:=fun z=>c (hf _ _ (h1.symm.trans z));unfold z7;rw [if_neg c2,wM c];exact val_two hf r
theorem aiP (hf:∀ a b,f a=f b->a=b) {k:κ} {xs:List (κ×V)} (t:a3O K H f kvs xs):(z7 kvs (f k)).isSome=(vL xs k).isSome:=by
 have z:=val_two hf (k:=k) t;cases e:z7 kvs (f k) with
 | none=>rw [z.2 e];rfl
 | some d=>obtain ⟨v,e2,_⟩:=z.1 d e;rw [e2];rfl
theorem adA {g:DK×D->DK×D} {h:κ×V->κ×V} (gh:∀ p q,p.1=f q.1/\RD K H p.2 q.2->(g p).1=f (h q).1/\RD K H (g p).2 (h q).2):∀ {kvs:List (DK×D)} {xs:List (κ×V)},a3O K H f kvs xs->a3O K H f (kvs.map g) (xs.map h)
 | _,_,.nil => .nil
 | _,_,.cons z r => .cons (gh _ _ z) (adA gh r)
theorem a98 {p:DK×D} {q:κ×V} (z:p.1=f q.1/\RD K H p.2 q.2):∀ {kvs:List (DK×D)} {xs:List (κ×V)},a3O K H f kvs xs->a3O K H f (kvs++[p]) (xs++[q])
 | _,_,.nil => .cons z .nil
 | _,_,.cons y r => .cons y (a98 z r)
theorem adB (hf:∀ a b,f a=f b->a=b) {k:κ} {d:D} (rd:RD K H d v) {xs:List (κ×V)} (t:a3O K H f kvs xs):a3O K H f (av0 kvs (f k) d) (putK xs k v):=by
 unfold av0 putK;rw [a0R,aiP hf t];split
 ·refine adA (fun p q ⟨h1,h2⟩=>?_) t;by_cases c:q.1=k
  ·rw [if_pos (show p.1=f k by rw [h1,c]),if_pos c];exact ⟨h1,rd⟩
  ·rw [if_neg (show ¬ p.1=f k from fun z=>c (hf _ _ (h1.symm.trans z))),if_neg c];exact ⟨h1,h2⟩
 ·exact a98 (p:=(f k,d)) (q:=(k,v)) ⟨rfl,rd⟩ t
end
theorem adC (a b:Key) (h:(Sum.inl a:DK) = .inl b):a=b:=by cases h;rfl
theorem adD (a b:List Key) (h:(Sum.inr a:DK) = .inr b):a=b:=by cases h;rfl
noncomputable def a4W (K:Fg) (H:Hp) (a:Addr) (vy:V) (kvs:List (DK×D)) (k:DK):Prop :=
 (∃ k' xs,k = .inl k'/\H a=some (.dK xs)/\a3O K H .inl kvs xs/\vy=kV k')∨∃ ks xs b,k = .inr ks/\H a=some (.dT xs)/\a3O K H .inr kvs xs/\vy = .ref b/\H b=some (.tup (ks.map kV))
theorem a4W.get {K:Fg} {H:Hp} {a:Addr} {k:DK} (h:a4W K H a vy kvs k):(∀ d,z7 kvs k=some d->∃ v,aaY H a vy (some v)/\RD K H d v)/\(z7 kvs k=none->aaY H a vy none):=by
 rcases h with ⟨k',xs,rfl,e,r,rfl⟩ | ⟨ks,xs,b,rfl,e,r,rfl,eb⟩
 ·have z:=val_two adC (k:=k') r;exact ⟨fun d e2=>(z.1 d e2).elim fun v q=>⟨v,by rw [← q.1];exact .k e,q.2⟩,fun e2=>by rw [← z.2 e2];exact .k e⟩
 ·have z:=val_two adD (k:=ks) r;exact ⟨fun d e2=>(z.1 d e2).elim fun v q=>⟨v,by rw [← q.1];exact .t e eb,q.2⟩,fun e2=>by rw [← z.2 e2];exact .t e eb⟩
theorem a4W.any {K:Fg} {H:Hp} {a:Addr} {k:DK} (h:a4W K H a vy kvs k):∃ o,aaY H a vy o/\o.isSome=(z7 kvs k).isSome/\∀ d v,RD K H d v->RD K H ((z7 kvs k).getD d) (o.getD v):=by
 have z:=h.get;cases e:z7 kvs k with
 | none=>exact ⟨none,z.2 e,rfl,fun d v r=>r⟩
 | some d=>obtain ⟨v,g,r⟩:=z.1 d e;exact ⟨some v,g,rfl,fun _ _ _=>r⟩
theorem a4W.put {K:Fg} {H:Hp} {G:Gp} {a:Addr} {d:D} {k:DK} (g:HR K H G) (h:a4W K H a vy kvs k) (rv:RD K H d v) (hl:kvs.length < sizeLine):∃ H',ah6 H a vy v H'/\Ts H H'/\HR K H' (aG G a (.dic (aAI k) (av0 kvs k d))):=by
 rcases h with ⟨k',xs,rfl,e,r,rfl⟩ | ⟨ks,xs,b,rfl,e,r,rfl,eb⟩
 ·have tt:Ts H (upd H a (.dK (putK xs k' v))) := .turn e (fun _ z=>nomatch z) (fun _ _ z=>nomatch z);exact ⟨_,.k e (by rw [← r.length];exact hl),tt,g.turn (u := .dic false _) tt (.inl ⟨rfl,_,aH,(adB adC rv r).imp fun _ _ q=>⟨q.1,q.2.mono tt⟩⟩)⟩
 ·have tt:Ts H (upd H a (.dT (putK xs ks v))) := .turn e (fun _ z=>nomatch z) (fun _ _ z=>nomatch z);exact ⟨_,.t e eb (by rw [← r.length];exact hl),tt,g.turn (u := .dic true _) tt (.inr ⟨rfl,_,aH,(adB adD rv r).imp fun _ _ q=>⟨q.1,q.2.mono tt⟩⟩)⟩
section
variable {X:Cx} {o i value e f:Expr} {to ti tv te tf:cF} {pos pos' apos cpos:Pos}
end
end
section
section
variable {prog:Program} {w:World} {K:Type} [DecidableEq K] {knd:HeapKind prog w K} {A:Around} {E:Value->Shared->Prop} {s:Shared} {d a:Addr} {k:K} {xs:List (K×Addr×Value)}
noncomputable def a99 (xs:List (K×Addr×Value)) (k:K):List (K×Addr×Value):=xs.filter fun x=>decide (x.1≠k)
end
theorem KT.drop {H:Hp} {kvs:List (List Key×V)} {xs:List (List Key×Addr×Value)} (r:KT H kvs xs) (k:List Key):KT H (acQ kvs k) (a99 xs k):=by
 unfold acQ a99
 induction r with
 | nil=>exact .nil
 | @cons p q ps qs h t ih =>
  rw [vq,vq];by_cases e:p.1=k
  ·rw [if_neg (by simp [e]),if_neg (by simp [h.1.symm.trans e])];exact ih
  ·rw [if_pos (by simp [e]),if_pos (by simp;exact fun z=>e (h.1.trans z))];exact .cons h ih
section
variable {X:Cx}
end
end
variable {p:Array Nat}
section
open PySem.W
section
variable {cmp:Nat->Nat->(Bool->Shared->Prop)->Shared->Prop} {I:Shared->Prop} {kf:Nat->Int}
noncomputable def ky (kf:Nat->Int) (p:Array Nat) (i:Nat):Int:=kf (p.getD i 0)
def Up (kf:Nat->Int) (p:Array Nat) (k:Nat):Prop:=∀ i j,i<=j->j < k->ky kf p i<=ky kf p j
def Down (kf:Nat->Int) (p:Array Nat) (k:Nat):Prop:=∀ i j,i < j->j < k->ky kf p j < ky kf p i
def Asks (cmp:Nat->Nat->(Bool->Shared->Prop)->Shared->Prop) (I:Shared->Prop) (kf:Nat->Int) (n:Nat):Prop:=∀ i j C s,i < n->j < n->I s->(∀ s',I s'->C (decide (kf i < kf j)) s')->cmp i j C s
structure Pm (n:Nat) (p:Array Nat):Prop where
 size:p.size=n
 perm:p.toList.Perm (dh n)
theorem Pm.lt {n:Nat} (h:Pm n p) {i:Nat} (hi:i < n):p.getD i 0 < n:=by
 have hs:i < p.size:=by rw [h.size];exact hi
 have e:p.getD i 0=p[i]:=by simp [qb,hs]
 rw [e];exact ji.mp (h.perm.mem_iff.mp (by simp))
theorem Pm.inj {n:Nat} (h:Pm n p) {i j:Nat} (hi:i < n) (hj:j < n) (e:p.getD i 0=p.getD j 0):i=j:=by
 have hs:i < p.size:=by rw [h.size];exact hi
 have ht:j < p.size:=by rw [h.size];exact hj
 have nd:p.toList.Nodup:=(h.perm.nodup_iff).mpr List.nodup_range;have e1:p.getD i 0=p[i]:=by simp [qb,hs]
 have e2:p.getD j 0=p[j]:=by simp [qb,ht]
 rw [e1,e2] at e;have key:=qw.mp nd;have hs':i < p.toList.length:=by simpa using hs
 have ht':j < p.toList.length:=by simpa using ht
 rcases Nat.lt_trichotomy i j with c | c | c
 ·exact absurd (by simpa using e) (key i j hs' ht' c)
 ·exact c
 ·exact absurd (by simpa using e.symm) (key j i ht' hs' c)
theorem eY {q:Array Nat} {i j:Nat} (h:p[i]?=q[j]?):p.getD i 0=q.getD j 0:=by
 rw [Array.getD_eq_getD_getElem?,Array.getD_eq_getD_getElem?,h]
theorem a6S {n k:Nat} (hn:n<=p.size) (hk:k < n):ky kf (kas_rev p 0 n) k=ky kf p (n - 1 - k):=by
 unfold ky kas_rev;have e:=getElem?_mirror_all (xs:=p) (i:=0) (j:=n) hn k;rw [if_pos ⟨je _,hk⟩,jk] at e;rw [eY e]
theorem Pm.rev {n m:Nat} (h:Pm n p):Pm n (kas_rev p 0 m):=⟨by rw [kas_rev_size];exact h.size,((mirror_perm p 0 m _).toList).trans h.perm⟩
theorem Down.up {n:Nat} (hn:n<=p.size) (h:Down kf p n):Up kf (kas_rev p 0 n) n:=fun i j hij hj=>by
 rw [a6S hn (by omega),a6S hn hj];by_cases c:i=j
 ·subst c;exact mq _
 ·exact ni (h (n - 1 - j) (n - 1 - i) (by omega) (by omega))
theorem a1J {n:Nat} (hc:Asks cmp I kf n) {p:Array Nat} (P:Pm n p) {Q:Nat->Shared->Prop}:∀ (f a:Nat) (s:Shared),1<=a->a+f<=n->Up kf p a->I s->(∀ m s',a<=m->m<=a+f->Up kf p m->(m < a+f->ky kf p m < ky kf p (m - 1))->I s'->Q m s')->(kas_asc p f a).kasWp cmp Q s
 | 0,a,s,h1,h2,u,i,h=>h a s (au _) (au _) u (fun z=>absurd z (jq _)) i
 | f+1,a,s,h1,h2,u,i,h=>by
  show cmp (p.getD a 0) (p.getD (a - 1) 0) _ s;refine hc _ _ _ s (P.lt (by omega)) (P.lt (by omega)) i fun s' i'=>?_;by_cases c:kf (p.getD a 0) < kf (p.getD (a - 1) 0)
  ·rw [decide_eq_true c];dsimp only;rw [if_pos rfl];exact h a s' (au _) (by omega) u (fun _=>c) i'
  ·rw [decide_eq_false c];dsimp only;rw [if_neg (by decide)];refine a1J hc P f (a+1) s' (by omega) (by omega) (fun x y hxy hy=>?_) i' fun m s2 l1 l2 u2 l3 i2=>h m s2 (by omega) (by omega) u2 (fun z=>l3 (by omega)) i2;by_cases cy:y < a
   ·exact u x y hxy cy
   ·have ey:y=a:=by omega
    subst ey;by_cases cx:x=y
    ·subst cx;exact mq _
    ·have:=u x (y - 1) (by omega) (by omega);have c':ky kf p (y - 1)<=ky kf p y:=by unfold ky;omega
     omega
theorem adE {n:Nat} (hc:Asks cmp I kf n) (hd:∀ i j,i < n->j < n->kf i=kf j->i=j) {p:Array Nat} (P:Pm n p) {Q:Array Nat×Nat×Nat->Shared->Prop}:∀ (f a:Nat) (s:Shared),2<=a->a+f<=n->Down kf p a->I s->(∀ m s',a<=m->m<=a+f->Down kf p m->I s'->Q (p,m,0) s')->(kas_desc f p a 0).kasWp cmp Q s
 | 0,a,s,h1,h2,u,i,h=>h a s (au _) (au _) u i
 | f+1,a,s,h1,h2,u,i,h=>by
  show cmp (p.getD a 0) (p.getD (a - 1) 0) _ s;refine hc _ _ _ s (P.lt (by omega)) (P.lt (by omega)) i fun s' i'=>?_;by_cases c:kf (p.getD a 0) < kf (p.getD (a - 1) 0)
  ·rw [decide_eq_true c];dsimp only;rw [if_pos rfl,if_neg (by omega)];refine adE hc hd P f (a+1) s' (by omega) (by omega) (fun x y hxy hy=>?_) i' fun m s2 l1 l2 u2 i2=>h m s2 (by omega) (by omega) u2 i2;by_cases cy:y < a
   ·exact u x y hxy cy
   ·have ey:y=a:=by omega
    subst ey;have c':ky kf p y < ky kf p (y - 1):=c;by_cases cx:x=y - 1
    ·subst cx;exact c'
    ·have:=u x (y - 1) (by omega) (by omega);omega
  ·rw [decide_eq_false c];dsimp only;rw [if_neg (by decide)];show cmp (p.getD (a - 1) 0) (p.getD a 0) _ s';refine hc _ _ _ s' (P.lt (by omega)) (P.lt (by omega)) i' fun s2 i2=>?_
   have ne:kf (p.getD a 0)≠kf (p.getD (a - 1) 0):=fun z=>by
    have:=P.inj (i:=a) (j:=a - 1) (by omega) (by omega) (hd _ _ (P.lt (by omega)) (P.lt (by omega)) z);omega
   rw [decide_eq_true (show kf (p.getD (a - 1) 0) < kf (p.getD a 0) by omega)];dsimp only;rw [if_pos rfl];exact h a s2 (au _) (by omega) u i2
theorem aiQ {n:Nat} (hc:Asks cmp I kf n) (hd:∀ i j,i < n->j < n->kf i=kf j->i=j) (h2:2<=n) (P:Pm n p) {Q:Nat×Array Nat->Shared->Prop} {s:Shared} (i:I s) (h:∀ m q s',1<=m->m<=n->Pm n q->Up kf q m->I s'->Q (m,q) s'):(kas_count n p).kasWp cmp Q s:=by
 unfold kas_count;rw [KasT.kasWp_bind];refine a1J hc P (n - 1) 1 s (au _) (by omega) (fun x y hxy hy=>by have:x=y:=(by omega);subst this;exact mq _) i fun m s' l1 l2 u l3 i'=>?_;by_cases c:m=n
 ·subst c;rw [if_pos (by simp)];exact h m p s' l1 (by omega) P u i'
 ·rw [if_neg (by simpa using c)];by_cases c1:m > 1
  ·rw [if_pos c1];show cmp (p.getD 0 0) (p.getD (m - 1) 0) _ s';refine hc _ _ _ s' (P.lt (by omega)) (P.lt (by omega)) i' fun s2 i2=>?_
   have ne:kf (p.getD 0 0)≠kf (p.getD (m - 1) 0):=fun z=>by
    have:=P.inj (i:=0) (j:=m - 1) (by omega) (by omega) (hd _ _ (P.lt (by omega)) (P.lt (by omega)) z);omega
   have le:ky kf p 0<=ky kf p (m - 1):=u 0 (m - 1) (by omega) (by omega);unfold ky at le;rw [decide_eq_true (show kf (p.getD 0 0) < kf (p.getD (m - 1) 0) by omega)];dsimp only;rw [if_pos rfl];exact h m p s2 l1 (by omega) P u i2
  ·rw [if_neg c1];have e1:m=1:=by omega
   subst e1;unfold kas_descPart;rw [KasT.kasWp_bind];refine adE hc hd P (n - (1+1)) (1+1) s' (by omega) (by omega) (fun x y hxy hy=>?_) i' fun m s2 k1 k2 dn i2=>?_
   ·have ex:x=0:=by omega
    have ey:y=1:=by omega
    subst ex;subst ey;exact l3 (by omega)
   ·dsimp only;rw [if_neg (by omega)];unfold kas_tail3;rw [KasT.kasWp_bind];refine a1J hc (P.rev (m:=m)) (n - m) m s2 (by omega) (by omega) (dn.up (by rw [P.size];omega)) i2 fun k s3 q1 q2 u3 _ i3=>h k _ s3 (by omega) (by omega) P.rev u3 i3
theorem a1K {n:Nat} (hc:Asks cmp I kf n) {p:Array Nat} (P:Pm n p) {k:Nat} (hk:k < n) (u:Up kf p k) {Q:Nat->Shared->Prop}:∀ (f l r:Nat) (s:Shared),l<=r->r<=k->r - l<=f->(∀ x,x < l->ky kf p x<=ky kf p k)->(∀ x,r<=x->x < k->ky kf p k < ky kf p x)->I s ->
   (∀ m s',m<=k->(∀ x,x < m->ky kf p x<=ky kf p k)->(∀ x,m<=x->x < k->ky kf p k < ky kf p x)->I s'->Q m s')->(kas_place p k f l r).kasWp cmp Q s
 | 0,l,r,s,h1,h2,h3,a,b,i,h=>h l s (by omega) a (fun x hx=>b x (by omega)) i
 | f+1,l,r,s,h1,h2,h3,a,b,i,h=>by
  unfold kas_place;by_cases c0:l≥r
  ·rw [if_pos c0];exact h l s (by omega) a (fun x hx=>b x (by omega)) i
  ·rw [if_neg c0];show cmp (p.getD k 0) (p.getD ((l+r) / 2) 0) _ s;refine hc _ _ _ s (P.lt (by omega)) (P.lt (by omega)) i fun s' i'=>?_;by_cases c:kf (p.getD k 0) < kf (p.getD ((l+r) / 2) 0)
   ·rw [decide_eq_true c];dsimp only;rw [if_pos rfl];refine a1K hc P hk u f l ((l+r) / 2) s' (by omega) (by omega) (by omega) a (fun x hx hxk=>?_) i' h;have:=u ((l+r) / 2) x hx hxk;have c':ky kf p k < ky kf p ((l+r) / 2):=c;omega
   ·rw [decide_eq_false c];dsimp only;rw [if_neg (by decide)];refine a1K hc P hk u f ((l+r) / 2+1) r s' (by omega) (by omega) (by omega) (fun x hx=>?_) b i' h;have:=u x ((l+r) / 2) (by omega) (by omega);have c':ky kf p ((l+r) / 2)<=ky kf p k:=by unfold ky;omega
    omega
theorem z8 {n:Nat} (hc:Asks cmp I kf n) {Q:Array Nat->Shared->Prop}:∀ (f k:Nat) (p:Array Nat) (s:Shared),Pm n p->1<=k->k+f=n->Up kf p k->I s->(∀ q s',Pm n q->Up kf q n->I s'->Q q s')->(kas_bin f p k).kasWp cmp Q s
 | 0,k,p,s,P,h1,h2,u,i,h=>h p s P (by rw [← h2];exact u) i
 | f+1,k,p,s,P,h1,h2,u,i,h=>by
  unfold kas_bin;rw [KasT.kasWp_bind];refine a1K hc P (by omega) u k 0 k s (je _) (au _) (by omega) (fun x hx=>absurd hx (Nat.not_lt_zero _)) (fun x hx hk=>absurd hx (by omega)) i fun m s' l1 a b i'=>?_;have hs:k < p.size:=by rw [P.size];omega
  refine z8 hc f (k+1) _ s' ⟨by rw [bubble_size];exact P.size,((bubble_perm p k _).toList).trans P.perm⟩ (by omega) (by omega) (fun x y hxy hy=>?_) i' h
  have e:∀ z,ky kf (bubble p k (k - m)) z=if z=m then ky kf p k else if m < z/\z<=k then ky kf p (z - 1) else ky kf p z:=fun z=>by
   have e:=getElem?_bubble hs (k - m) (by omega) z;rw [show k - (k - m)=m by omega] at e;by_cases c:z=m
   ·rw [if_pos c] at e ⊢;exact congrArg kf (eY e)
   ·rw [if_neg c] at e ⊢;by_cases c2:m < z/\z<=k
    ·rw [if_pos c2] at e ⊢;exact congrArg kf (eY e)
    ·rw [if_neg c2] at e ⊢;exact congrArg kf (eY e)
  have e1:ky kf (bubble p k (k - m)) m=ky kf p k:=by rw [e,if_pos rfl]
  have e2:∀ z,m < z->z<=k->ky kf (bubble p k (k - m)) z=ky kf p (z - 1):=fun z h1 h2=>by rw [e,if_neg (by omega),if_pos ⟨h1,h2⟩]
  have e3:∀ z,z < m->ky kf (bubble p k (k - m)) z=ky kf p z:=fun z h1=>by rw [e,if_neg (by omega),if_neg (by omega)]
  rcases Nat.lt_trichotomy x m with c | c | c
  ·rw [e3 x c];rcases Nat.lt_trichotomy y m with d | d | d
   ·rw [e3 y d];exact u x y hxy (by omega)
   ·rw [d,e1];exact a x c
   ·rw [e2 y d (by omega)];exact u x (y - 1) (by omega) (by omega)
  ·rw [c,e1];by_cases d:y=m
   ·rw [d,e1];exact mq _
   ·rw [e2 y (by omega) (by omega)];exact ni (b (y - 1) (by omega) (by omega))
  ·rw [e2 x c (by omega),e2 y (by omega) (by omega)];exact u (x - 1) (y - 1) (by omega) (by omega)
theorem anZ {n:Nat} (hc:Asks cmp I kf n) (hd:∀ i j,i < n->j < n->kf i=kf j->i=j) (h2:2<=n) {Q:Array Nat->Shared->Prop} {s:Shared} (i:I s) (h:∀ q s',Pm n q->Up kf q n->I s'->Q q s'):(kas_sort n).kasWp cmp Q s:=by
 unfold kas_sort;rw [KasT.kasWp_bind];refine aiQ hc hd h2 ⟨by simp,by simp⟩ i fun m q s' l1 l2 P u i'=>?_;dsimp only;by_cases c:m < n
 ·rw [if_pos c];have e:max m 1=m:=by omega
  rw [e];exact z8 hc (n - m) m q s' P l1 (by omega) u i' h
 ·rw [if_neg c];have:m=n:=by omega
  subst this;exact h q s' P u i'
end
section
variable {prog:Program} {w:World} {A:Around} {E:Value->Shared->Prop} {s:Shared}
noncomputable def aiR (prog:Program) (w:World) (A:Around) (s:Shared) (kf:Nat->Int) (vs:List Value) (h':Heap):Prop :=
 ∃ κ,(∀ Q:SortKind->Shared->Prop,Q κ { s with heap:=h' }->wpAny (model prog w) A (keyKind' vs.toArray) Q (fun _ _=>False) { s with heap:=h' })/\∀ i j (C:Bool->Shared->Prop),i < vs.length->j < vs.length->C (decide (kf i < kf j)) { s with heap:=h' }->kas_ask prog w A κ vs i j C { s with heap:=h' }
theorem afV {l:List Value} (h:l.length < 2):(l.toArray.zip l.toArray).map (·.2)=((dh l.length).toArray.toList.map fun i=>l.getD i Value.none).toArray:=by
 cases l with
 | nil=>simp
 | cons v r =>
  cases r with
  | nil=>simp
  | cons _ _=>simp at h;omega
end
def aAJ (a b:Int×Int):Prop:=a.1 < b.1∨(a.1=b.1/\a.2 < b.2)
instance (a b:Int×Int):Decidable (aAJ a b):=by unfold aAJ;infer_instance
section
variable {prog:Program} {w:World} {A:Around} {E:Value->Shared->Prop} {s:Shared}
def a6T (h:Heap) (ps:List (Int×Int)) (vs:List Value):Prop:=vs.length=ps.length/\∀ (i:Nat) (p:Int×Int),ps[i]?=some p->∃ (a:Addr) (o:Obj) (n:Nat) (x y:Tok),vs[i]?=some (Value.ref a)/\h.get? a=some o/\o.cls=Value.type "tuple" /\ o.data = .seq #[.int p.1 x,.int p.2 y] n
theorem a6T.firsts {h:Heap}:∀ {ps:List (Int×Int)} {vs:List Value},a6T h ps vs->∃ fs:List Value,KatTups h vs fs/\fs.length=ps.length/\∀ v∈fs,∃ i t,v = .int i t
 | [],[],_=>⟨[],trivial,rfl,fun v h=>by cases h⟩
 | [],_ :: _,H=>absurd H.1 (by simp)
 | _ :: _,[],H=>absurd H.1 (by simp)
 | p :: ps,v :: vs,H=>by
  obtain ⟨a,o,n,x,y,e1,e2,e3,e4⟩:=H.2 0 p rfl;obtain ⟨fs,k1,k2,k3⟩:=a6T.firsts (h:=h) (ps:=ps) (vs:=vs) ⟨by simpa using H.1,fun i q hq=>by simpa using H.2 (i+1) q (by simpa using hq)⟩;have e1':v = .ref a:=by simpa using e1
  subst e1';refine ⟨.int p.1 x :: fs,KatTups.cons e2 e3 e4 rfl k1,by simp [k2],fun u hu=>?_⟩;rcases jc.mp hu with rfl | hu
  ·exact ⟨_,_,rfl⟩
  ·exact k3 u hu
end
end
variable {h:Heap}
section
open PySem.W
variable {vs:List Value}
theorem ao0 {out:Array Value} {b:Addr} {u:Obj} (e:h.get? b=some u):(sortedAll h vs out).get? b=some u:=by
 have lb:b < h.objs.size:=cg e;have n0:b≠h.objs.size:=gk lb;have n1:b≠h.objs.size+1:=gk (vm lb);unfold sortedAll sortedHeap;rw [(nu.update _ _ _).2 b n1];refine ao _ (ao _ ?_);rw [(nu.update _ _ _).2 b n1];refine ao _ ?_;rw [(nu.update _ _ _).2 b n0];exact ao _ e
theorem av1 {out:Array Value}:∃ c,(sortedAll h vs out).get? (h.objs.size+1)=some (seqObj "list" out c):=by
 have sz:((h.push (seqObj "list" #[] 0)).update h.objs.size (Obj.mapSeq (·++vs.toArray))).objs.size=h.objs.size+1:=by rw [Heap.size_update,size_push']
 have oL:(((h.push (seqObj "list" #[] 0)).update h.objs.size (Obj.mapSeq (·++vs.toArray))).push (seqObj "list" vs.toArray 0)).get? (h.objs.size+1)=some (seqObj "list" vs.toArray 0):=by rw [← sz];exact dw _ rfl
 unfold sortedAll sortedHeap;obtain ⟨c1,e1⟩:∃ c,((((h.push (seqObj "list" #[] 0)).update h.objs.size (Obj.mapSeq (·++vs.toArray))).push (seqObj "list" vs.toArray 0)).update (h.objs.size+1) (Obj.mapSeq fun _=>#[])).get? (h.objs.size+1)=some (seqObj "list" #[] c):=⟨_,get?_update_seq oL fun _=>#[]⟩;exact ⟨_,get?_update_seq (ao _ (ao _ e1)) fun _=>out⟩
section
variable {X:Cx}
theorem z9 {xs:List V} {us:List Value} (r:Vals xs us):∀ {l:List Nat},(∀ i∈l,i < xs.length)->Vals (l.map fun i=>xs.getD i .non) (l.map fun i=>us.getD i Value.none)
 | [],_ => .nil
 | i :: l,h=>by
  have hi:=h i (by simp);obtain ⟨u,e1,ru⟩:=r.get (dj hi);have e2:xs.getD i .non=xs[i]:=by simp [iz,hi]
  have e3:us.getD i Value.none=u:=by simp [iz,e1]
  refine .cons ?_ (z9 r fun j hj=>h j (by simp [hj]));show RelV (xs.getD i .non) (us.getD i Value.none);rw [e2,e3];exact ru
end
end
section
open PySem.W
def a1L (h:Heap) (d:Addr) (es:Array DictEntry) (ep:Nat):Prop:=∃ o,h.get? d=some o/\o.ExactDict/\o.data = .dict es ep
section
variable {prog:Program} {w:World} {A:Around} {E:Value->Shared->Prop} {s:Shared} {d it:Addr} {es:Array DictEntry} {ep i:Nat}
theorem a1L.typeIs (hm:a1L s.heap d es ep):s.TypeIs (.ref d) "dict" := let ⟨o,ho,hc,_⟩:=hm;⟨o,ho,hc.1⟩
theorem a1L.lt (hm:a1L h d es ep):d < h.objs.size:=let ⟨_,ho,_⟩:=hm;cg ho
theorem a1L.at (hm:a1L h d es ep) (k:∀ o,h.get? d=some o->h'.get? d=some o):a1L h' d es ep:=let ⟨o,ho,r⟩:=hm;⟨o,k o ho,r⟩
end
end
section
open PySem.W
section
variable {X:Cx} {tg:Expr}
end
section
variable {X:Cx} {tg:Expr}
end
end
section
open PySem.W
section
variable {prog:Program} {w:World} {A:Around} {E:Value->Shared->Prop} {s:Shared}
noncomputable abbrev TK (prog:Program) (w:World):=tupleKind (bI prog w)
def aAK (prog:Program) (w:World) (h:Heap) (v:Value) (x:List Key×Addr×Value):Prop:=∃ p o n,v = .ref p/\h.get? p=some o/\o.cls = .type "tuple" /\ o.data = .seq #[.ref x.2.1,x.2.2] n/\(TK prog w).is h x.1 x.2.1
theorem adF {ks:List Key} {a:Addr} (x:(TK prog w).is h ks a) (k:∀ o,h.get? a=some o->h'.get? a=some o):(TK prog w).is h' ks a:=by
 obtain ⟨o,its,n,h1,r⟩:=x;exact ⟨o,its,n,k _ h1,r⟩
def ao1 (prog:Program) (w:World) (I d:Addr) (h:Heap) (v:Value) (x:List Key×Addr×Value):Prop:=∃ p o n,v = .ref p/\h.get? p=some o/\o.cls = .type "tuple" /\ o.data = .seq #[.ref x.2.1,x.2.2] n/\(TK prog w).is h x.1 x.2.1/\p≠I/\p≠d/\x.2.1≠I/\x.2.1≠d
theorem ao1.keep {I d:Addr} {x:List Key×Addr×Value} (q:ao1 prog w I d h v x) (k:∀ b o,b≠d->b≠I->h.get? b=some o->h'.get? b=some o):ao1 prog w I d h' v x:=by
 obtain ⟨p,o,n,e,h1,h2,h3,h4,h5,h6,h7,h8⟩:=q;exact ⟨p,o,n,e,k _ _ h6 h5 h1,h2,h3,adF h4 fun o e=>k _ _ h8 h7 e,h5,h6,h7,h8⟩
theorem aAK.ok {I d:Addr} {x:List Key×Addr×Value} (q:aAK prog w h v x) (hI:h.objs.size<=I) (hd:h.objs.size<=d) (k:∀ b o,h.get? b=some o->h'.get? b=some o):ao1 prog w I d h' v x:=by
 obtain ⟨p,o,n,e,h1,h2,h3,h4⟩:=q;have l1:=cg h1
 have l2:x.2.1 < h.objs.size:=by
  obtain ⟨o2,its,n2,z,_⟩:=id h4;exact cg z
 exact ⟨p,o,n,e,k _ _ h1,h2,h3,adF h4 fun o e=>k _ _ e,gk (cu l1 hI),gk (cu l1 hd),gk (cu l2 hI),gk (cu l2 hd)⟩
end
end
section
open PySem.W
inductive Prs (K:Fg) (H:Hp):List (List Key×D)->List (List Key×Addr×Value)->Prop where
 | nil:Prs K H [] []
 | cons {ks:List Key} {b:Addr} {vz:V} {u:Value} {d:D} {kvs:List (List Key×D)} {ps:List (List Key×Addr×Value)}:H b=some (.tup (ks.map kV))->RD K H d vz->RelV vz u->Prs K H kvs ps->Prs K H ((ks,d) :: kvs) ((ks,b,u) :: ps)
theorem Prs.len {K:Fg} {H:Hp} {kvs:List (List Key×D)} {ps:List (List Key×Addr×Value)} (h:Prs K H kvs ps):kvs.length=ps.length:=by
 induction h with
 | nil=>rfl
 | cons _ _ _ _ ih=>simp [ih]
section
variable {X:Cx}
end
end
variable {EX:aN->aV}
section
noncomputable abbrev a6U (X:Cx) (i:Nat) (nm:Str):Cx:={ X with N:=X.N.set i nm }
section
variable {X:Cx} {pins:List (Addr×Obj)} {σ:St} {H:Hp} {s:Shared} {i:Nat} {nm:Str}
theorem av2 (ok:X.Ok):(a6U X i nm).Ok:=⟨ok.mod,ok.kind,ok.glob,ok.blt,ok.above,ok.inj,ok.has,ok.cab,ok.hd,ok.frames,ok.stk,ok.exf,ok.bs,ok.bsz,ok.a3E,ok.a5R,ok.nU,ok.frf⟩
theorem av3 (ok:(a6U X i nm).Ok):X.Ok:=⟨ok.mod,ok.kind,ok.glob,ok.blt,ok.above,ok.inj,ok.has,ok.cab,ok.hd,ok.frames,ok.stk,ok.exf,ok.bs,ok.bsz,ok.a3E,ok.a5R,ok.nU,ok.frf⟩
theorem aiS (I:Inv X pins σ H s):Inv (a6U X i nm) pins (vO σ i) H s :=
 ⟨av2 I.ok,I.os,I.bare,I.base,let ⟨m,hn,hl⟩:=I.loc;⟨m,hn,fun j x v e1 e2 e3=>by
  obtain ⟨n,e4⟩:=a1D σ i j v e2;have e1':(X.N.set i nm)[j]?=some x:=e1;rw [kj (Ne.symm n)] at e1';exact hl j x v e1' e4 e3⟩,I.cell,I.free,I.jG,I.pin,I.hok,by rw [a1C,I.len];simp,I.hnd,I.tup⟩
theorem oU (I:Inv (a6U X i nm) pins σ H s):Inv X pins (vO σ i) H s :=
 ⟨av3 I.ok,I.os,I.bare,I.base,let ⟨m,hn,hl⟩:=I.loc;⟨m,hn,fun j x v e1 e2 e3=>by
  obtain ⟨n,e4⟩:=a1D σ i j v e2;exact hl j x v (by show (X.N.set i nm)[j]?=some x;rw [kj (Ne.symm n)];exact e1) e4 e3⟩,I.cell,I.free,I.jG,I.pin,I.hok,by rw [a1C,I.len];simp,I.hnd,I.tup⟩
end
noncomputable def aAM (F:cH) (i:Nat):cH:={ nx:=fun ρ G=>F.nx (pP ρ i) G,rt:=F.rt,bk:=fun ρ G=>F.bk (pP ρ i) G,ct:=fun ρ G=>F.ct (pP ρ i) G }
noncomputable def a9A (i:Nat) (t:bH):bH:=fun F ρ G=>t (aAM F i) (pP ρ i) G
theorem av4 {i:Nat} {nm:Str} {st:Stmt} {t:bH} (h:PS3 (a6U X i nm) st t):PS3 X st (a9A i t):=by
 intro pins s σ H F I q _tk;obtain ⟨ρ,G,E,sr,g,q,u⟩:=q;refine cL (h pins s (vO σ i) H { nx:=fun σ H=>F.nx (vO σ i) H,rt:=F.rt,bk:=fun σ H=>F.bk (vO σ i) H,ct:=fun σ H=>F.ct (vO σ i) H } (aiS I) ⟨pP ρ i,G,aAM E i,sr.clr i,g,q,⟨fun ρ G σ H' a b c=>u.nx _ _ _ _ (a.clr i) b c,u.rt,fun ρ G σ H' a b c=>u.bk _ _ _ _ (a.clr i) b c,fun ρ G σ H' a b c=>u.ct _ _ _ _ (a.clr i) b c⟩⟩) fun f s' z=>?_;cases f with
 | next=>obtain ⟨σ',H',I',z⟩:=z;exact ⟨_,H',oU I',z⟩
 | brk=>obtain ⟨σ',H',I',z⟩:=z;exact ⟨_,H',oU I',z⟩
 | cont=>obtain ⟨σ',H',I',z⟩:=z;exact ⟨_,H',oU I',z⟩
 | ret v=>obtain ⟨v,σ',H',I',r,z⟩:=z;exact ⟨v,_,H',oU I',r,z⟩
theorem aiT {i:Nat} {nm:Str} (c:Cat X EX):Cat (a6U X i nm) (fun ρ=>EX (pP ρ i)):=⟨fun pins σ H s ρ e s' I sr q=>c.a8Q pins _ H s _ e s' (oU I) (sr.clr i) q⟩
theorem aiU {i:Nat} {nm:Str} (c:Thr X EX):Thr (a6U X i nm) (fun ρ=>EX (pP ρ i)):=⟨fun pins σ H s ρ C e us h' I sr m q=>c.made pins _ H s _ C e us h' (oU I) (sr.clr i) m q⟩
theorem a1M {nm:Str}:∀ {N:List Str} {i:Nat},N.Nodup->nm ∉ N->(N.set i nm).Nodup
 | [],_,h,_=>h
 | x :: r,0,h,n=>by
  rw [oh] at h;show (nm :: r).Nodup;rw [oh];exact ⟨fun z=>n (.tail _ z),h.2⟩
 | x :: r,i+1,h,n=>by
  rw [oh] at h;show (x :: r.set i nm).Nodup;rw [oh];refine ⟨fun z=>?_,a1M h.2 fun z=>n (.tail _ z)⟩;rcases List.mem_or_eq_of_mem_set z with z | z
  ·exact h.1 z
  ·exact n (z ▸ .head _)
end
section
open PySem.W
section
variable {prog:Program} {w:World} {A:Around} {E:Value->Shared->Prop} {s:Shared}
end
section
variable {X:Cx}
end
end
section
open Builtin.Str
section
variable {prog:Program} {w:World} {A:Around} {E:Value->Shared->Prop} {s:Shared}
end
section
variable {X:Cx}
noncomputable def aCP:RM3:=fun x xs G R=>match x,xs with
 | .str a,[.str b]=>(b.length == 0)=false/\a.length+2<=sizeLine/\(Txt.split a b).length<=sizeLine/\∀ q,G q=none->R (.ref q) (aG G q (.lst ((Txt.split a b).map D.str)))
 | _,_=>False
noncomputable def aqU:List D->Gp->dX->Prop:=fun xs G R=>match xs with
 | [.int i]=>i.natAbs.log2 < 1920/\R (.str (toString i)) G
 | [.str z]=>R (.str z) G
 | _=>False
theorem a6V:oM X (.type "str") (fun xs H Q=>(∃ i,xs=[.int i]/\i.natAbs.log2 < 1920/\Q (.str (toString i)) H)∨∃ z,xs=[.str z]/\Q (.str z) H):=by
 intro pins s σ H xs us Q I r h;rcases h with ⟨i,rfl,hz,q⟩ | ⟨z,rfl,q⟩
 ·obtain ⟨u,rfl,t,rfl⟩:=vals1 r;exact PySem.P.str_of_int hz ⟨.str _,H,I.tok _,⟨_,rfl⟩,q⟩
 ·obtain ⟨u,rfl,t,rfl⟩:=vals1 r;exact PySem.P.str_of_str ⟨.str _,H,I,⟨_,rfl⟩,q⟩
theorem aAN:cJ X (.type "str") aqU:=cJ.of a6V fun H xs vs G R Q rx g q k=>by
 cases rx with
 | nil=>exact False.elim q
 | cons r rr =>
  cases rr with
  | cons _ _=>cases r <;> exact False.elim q
  | nil =>
   cases r with
   | int i=>exact .inl ⟨i,rfl,q.1,fun _=>k _ H _ G (.refl H) (.str _) g q.2⟩
   | str z=>exact .inr ⟨z,rfl,fun _=>k _ H _ G (.refl H) (.str _) g q⟩
   | _=>exact False.elim q
noncomputable def adG:List D->Gp->dX->Prop:=fun xs G R=>match xs with
 | [.ref q]=>(match aL G q with
  | some ds=>R (.tup ds) G
  | none=>False)
 | _=>False
theorem ao2:cJ X (.type "tuple") adG:=cJ.of a3J fun H xs vs G R Q rx g q k=>by
 cases rx with
 | nil=>exact False.elim q
 | cons r rr =>
  cases rr with
  | cons _ _=>cases r <;> exact False.elim q
  | nil =>
   cases r with
   | ref a =>
    have q':(match aL G a with
     | some ds=>R (.tup ds) G
     | none=>False):=q
    split at q'
    ·rename_i ds e1;obtain ⟨xs,h1,r1⟩:=bN g e1;refine ⟨a,xs,rfl,.inl ⟨h1,fun l hl kf=>?_⟩⟩;have sn:Same H (upd H l (.tup xs)):=bC hl;exact k _ _ _ _ (.same sn) (.tup (qQ.of aH) (r1.mono (.same sn)) (ahK aH)) (g.same sn) q'
    ·exact q'.elim
   | _=>exact False.elim q
end
end
section
section
variable {X:Cx} {pins:List (Addr×Obj)} {σ:St} {H:Hp} {s:Shared} {tl:List (Addr×List V)}
end
end
section
open PySem.W
section
variable {prog:Program} {w:World} {A:Around} {E:Value->Shared->Prop} {s:Shared}
def ao3 (prog:Program) (w:World) (I d:Addr) (h:Heap) (v:Value) (x:Key×Value):Prop:=∃ p o n key,v = .ref p/\h.get? p=some o/\o.cls = .type "tuple" /\ o.data = .seq #[key,x.2] n/\(bI prog w).is x.1 key=true/\p≠I/\p≠d
theorem ao3.keep {I d:Addr} {x:Key×Value} (q:ao3 prog w I d h v x) (k:∀ b o,b≠d->b≠I->h.get? b=some o->h'.get? b=some o):ao3 prog w I d h' v x:=by
 obtain ⟨p,o,n,key,e,h1,h2,h3,h4,h5,h6⟩:=q;exact ⟨p,o,n,key,e,k _ _ h6 h5 h1,h2,h3,h4,h5,h6⟩
def aAO (prog:Program) (w:World) (h:Heap) (v:Value) (x:Key×Value):Prop:=∃ p o n key,v = .ref p/\h.get? p=some o/\o.cls = .type "tuple" /\ o.data = .seq #[key,x.2] n/\(bI prog w).is x.1 key=true
theorem aAO.ok {I d:Addr} {x:Key×Value} (q:aAO prog w h v x) (hI:h.objs.size<=I) (hd:h.objs.size<=d) (k:∀ b o,h.get? b=some o->h'.get? b=some o):ao3 prog w I d h' v x:=by
 obtain ⟨p,o,n,key,e,h1,h2,h3,h4⟩:=q;have l1:=cg h1;exact ⟨p,o,n,key,e,k _ _ h1,h2,h3,h4,gk (cu l1 hI),gk (cu l1 hd)⟩
end
section
variable {X:Cx}
end
end
section
open PySem.W
section
variable {prog:Program} {w:World} {A:Around} {E:Value->Shared->Prop} {s:Shared}
end
section
variable {X:Cx}
end
end
section
open PySem.W
section
variable {prog:Program} {w:World} {A:Around} {E:Value->Shared->Prop} {s:Shared}
end
section
variable {X:Cx}
end
end
section
open PySem.W
section
variable {prog:Program} {w:World} {A:Around} {E:Value->Shared->Prop} {s:Shared}
section
variable {κ:Type} [DecidableEq κ] {knd:HeapKind prog w κ}
end
end
section
variable {X:Cx}
end
end
section
open PySem.W
section
variable {X:Cx} {A:Around} {E:Value->Shared->Prop}
end
end
section
open PySem.W
structure Fz (X:Cx) (p:Addr):Prop where
 free:∀ ob,X.s₀.heap.get? p=some ob->X.H₀ p=none->p∈X.ex
 tup:∀ xs,X.H₀ p≠some (.tup xs)
 oJ:∀ o w,X.H₀ p≠some (.oJ o w)
 vH:∀ ps,X.H₀ p≠some (.vH ps)
section
variable {X:Cx} {pins:List (Addr×Obj)} {σ:St} {H:Hp} {s:Shared}
theorem Fz.of {p:Addr} {u:HO} (I:Inv X pins σ H s) (hu:H p=some u) (h1:∀ xs,u ≠ .tup xs) (h2:∀ ob w,u ≠ .oJ ob w) (h3:∀ ps,u ≠ .vH ps):Fz X p:=by
 refine ⟨fun ob q n=>?_,fun xs q=>?_,fun o w q=>?_,fun ps q=>?_⟩
 ·apply Classical.byContradiction;intro hx;have:=I.base.free p ob q n hx;rw [hu] at this;cases this
 ·have:=I.base.tups p xs q;rw [hu] at this;exact h1 xs (ig.inj this)
 ·have:=I.base.eZ p o w q;rw [hu] at this;exact h2 o w (ig.inj this)
 ·obtain ⟨more,this⟩:=I.base.rD p ps q;rw [hu] at this;exact h3 _ (ig.inj this)
end
section
variable {X:Cx} {pins:List (Addr×Obj)} {σ:St} {H:Hp} {s:Shared}
end
section
variable {X:Cx}
end
section
variable {X:Cx} {pins:List (Addr×Obj)} {σ:St} {H:Hp} {s:Shared}
end
section
variable {X:Cx} {pins:List (Addr×Obj)} {σ:St} {H:Hp} {s:Shared}
end
end
section
open PySem.W
structure Tt (H H':Hp):Prop where
 tups:∀ a xs,H a=some (.tup xs)->H' a=some (.tup xs)
 au7:∀ a o xs,H a=some (.oJ o (.tup xs))->H' a=some (.oJ o (.tup xs))
 aJ0:∀ a o φ,H a=some (.oJ o (.ext φ))->H' a=some (.oJ o (.ext φ))
variable {xs:List V}
theorem Tt.sqT {K:Fg} {H:Hp} (t:Tt H H') {a:Addr} (h:qQ K H a xs):qQ K H' a xs:=by
 rcases h with (h | ⟨o,h⟩) | h
 ·exact .inl (.inl (t.tups _ _ h))
 ·exact .inl (.inr ⟨o,t.au7 _ _ _ h⟩)
 ·exact .inr h
theorem a8M.uX {H:Hp} (t:Tt H H') {a:Addr} (h:a8M H a xs):a8M H' a xs:=trivial
mutual
theorem RD.uX {K:Fg} {H H':Hp} (t:Tt H H'):∀ {d:D} {v:V},RD K H d v->RD K H' d v
 | _,_,.non => .non
 | _,_,.bl b => .bl b
 | _,_,.int i => .int i
 | _,_,.str x => .str x
 | _,_,.ty n => .ty n
 | _,_,.ref a => .ref a
 | _,_,.tup h r e => .tup (t.sqT h) (bV.uX t r) (e.uX t)
theorem bV.uX {K:Fg} {H H':Hp} (t:Tt H H'):∀ {ds:List D} {vs:List V},bV K H ds vs->bV K H' ds vs
 | _,_,.nil => .nil
 | _,_,.cons h r => .cons (RD.uX t h) (bV.uX t r)
end
theorem SR.uX {K:Fg} {H H':Hp} (t:Tt H H'):∀ {ρ:aN} {σ:St},SR K H ρ σ->SR K H' ρ σ
 | _,_,.nil => .nil
 | _,_,.none r => .none (SR.uX t r)
 | _,_,.some h r => .some (h.uX t) (SR.uX t r)
section
variable {X:Cx} {pins:List (Addr×Obj)} {σ:St} {H:Hp} {s:Shared}
end
section
variable {X:Cx}
end
section
variable {X:Cx}
end
end
section
open PySem.W
section
variable {X:Cx}
end
end
section
noncomputable def Ite (K:Fg) (a:Addr):It :=
 ⟨fun i H=>∃ xs x,rF K H a xs/\xs[i]?=some x,
  fun i H v H'=>∃ p x,H p=none/\v = .ref p/\H'=upd H p (.tup [.int i,x])/\∀ xs,rF K H a xs->xs[i]?=some x,
  fun i H=>∃ xs,rF K H a xs/\xs.length=i⟩
def aEZ (e it l:Addr) (i:Nat) (h:Heap):Prop:=(∃ old,IsEnum h e it i old)/\h.IsListIter it l i
theorem afW {w:World} {K:Fg} {kt:Nat} {pt:Pos} {e l:Addr} (hei:e≠it) (hl:l≠it) (hle:e≠l):Turn true tl P w K (.Tuple es kt pt) (Ite K l) [e,it] e (aEZ e it l) where
 mem:=by simp
 obj:=fun i h st b hb=>by
  obtain ⟨⟨old,he⟩,⟨o,e1,_,d1⟩⟩:=st;simp only [jc,zj,or_false] at hb;rcases hb with rfl | rfl
  ·exact ⟨_,he,fun v z=>nomatch z⟩
  ·exact ⟨o,e1,fun v z=>by rw [d1] at z;cases z⟩
 keep:=fun i h h' st k=>by
  obtain ⟨⟨old,he⟩,s1⟩:=st;exact ⟨⟨old,k e (by simp) _ he⟩,s1.at fun o x=>k it (by simp) o x⟩
 item:=by
  intro X hP hw hK hcm ht i pins s σ H E I hf st hg;subst hP hw hK;obtain ⟨⟨old,he⟩,hit⟩:=st;obtain ⟨xs,x,q,ex⟩:=hg;obtain ⟨us,r,p,_⟩:=I.list q;obtain ⟨u,hu,ru⟩:=r.get ex;have hlt:i < us.toArray.size:=by simpa using (cj.mp hu).1
  have fr:=I.hok.fresh (au s.heap.objs.size);have lt:∀ {c o},s.heap.get? c=some o->s.heap.objs.size≠c:=fun e=>yq (cg e);have n1:s.heap.objs.size≠it:=by obtain ⟨_,e,_⟩:=hit;exact lt e
  have D:=Draws.list (prog:=X.prog) (w:=X.w) (A:=X.A.in1) (I.ok.hd (hcm rfl)) it l hl us.toArray;refine wpAny_pyNext_enum_itemD D he ⟨hit,p.isList⟩ hlt hei (by simp [hei,hle]) fun x' h' tk hx' ho st' hT hsz hk=>?_;have ex':x'=u:=by simpa [hu] using hx'.symm
  subst ex';refine ⟨_,rfl,wpAny_letOwnedTupleGo_enum (s:={ s with heap:=h',toks:=tk+1 }) ho fun h2 he2 sb=>?_⟩
  have k2:∀ b o,b ∉ [e,it]->s.heap.get? b=some o->h2.get? b=some o:=fun b o hb q =>
   sb.extBut _ _ (fun z=>hb (by simp [z])) (hk b o (fun z=>hb (by simp [z])) (fun z=>hb (by simp [z])) q)
  refine ⟨.ref s.heap.objs.size,upd H s.heap.objs.size (.tup [.int i,x]),I.afT (t':=tk+1) (ch:=[e,it]) k2 hf (au _) ⟨show 2<=sizeLine by decide,[.int i tk,x'],.cons ⟨tk,rfl⟩ (.cons ru .nil),⟨_,sb.extBut _ _ (lt he) hT,rfl,_,rfl⟩⟩,rfl,
   ⟨_,x,fr,rfl,rfl,fun xs' q'=>by rw [I.a8H q' q];exact ex⟩,⟨⟨x',by simpa using he2⟩,st'.1.extBut sb.extBut (Ne.symm hei)⟩,fun b hb=>?_⟩
  have hb2:=hb;simp only [jc,zj,or_false] at hb2;rw [aQ]
  ·exact (hf b hb).1
  ·intro q;rcases hb2 with e | e
   ·exact lt he (q.symm.trans e)
   ·exact n1 (q.symm.trans e)
 done:=by
  intro X hP hw hK hcm ht i pins s σ H E I hf st hg;subst hP hw hK;obtain ⟨⟨old,he⟩,hit⟩:=st;obtain ⟨xs,q,hl2⟩:=hg;obtain ⟨us,r,p,_⟩:=I.list q;have hn:us.toArray.size=i:=by rw [aq,← r.length];exact hl2
  have D:=Draws.list (prog:=X.prog) (w:=X.w) (A:=X.A.in1) (I.ok.hd (hcm rfl)) it l hl us.toArray;exact wpAny_pyNext_enum_endD D he ⟨hn ▸ hit,p.isList⟩ fun h' hx=>⟨rfl,I.a6R (t':=s.toks) (ch:=[e,it]) (fun b o hb q=>hx b o (fun z=>hb (by simp [z])) q) hf⟩
 self:=fun _ _ _ _ _ st h=>wpAny_pyIter_enum st.1.choose_spec h
theorem a6W:(enm xs).length=xs.length:=by simp [enm]
theorem adH {i:Nat} {x:D} (h:xs[i]?=some x):(enm xs)[i]?=some (.tup [.int i,x]):=by
 unfold enm;rw [gw,List.getElem?_zipIdx,h];simp
theorem aiV {K:Fg} {p:Addr}:afR K (.enu p xs) (Ite K p):=fun H2 G2 g ok=>by
 obtain ⟨vs,hq,rv⟩:=bN g ok;have hl:(Src.enu p xs).items.length=xs.length:=a6W;refine ⟨fun i hi=>?_,fun i v H' hi hy=>?_,⟨vs,hq,by rw [hl];exact rv.length.symm⟩⟩
 ·rw [hl] at hi;obtain ⟨y,e1,_⟩:=rv.get (dj hi);exact ⟨vs,y,hq,e1⟩
 ·obtain ⟨a,x,fr,rfl,rfl,h1⟩:=hy;obtain ⟨d,e1,e2⟩:=rv.ahL (h1 vs hq);have sn:Same H2 (upd H2 a (.tup [.int i,x])):=bC fr;exact ⟨sn,.tup [.int i,d],adH e1,.tup (qQ.of aH) (.cons (.int i) (.cons (e2.mono (.same sn)) .nil)) (ahK aH)⟩
noncomputable def a6X (ta:pK):TI3:=fun ρ G R=>ta ρ G fun xs G1=>match xs with
 | [.ref a]=>(match aL G1 a with
  | some ds=>R (.enu a ds) G1
  | none=>False)
 | _=>False
section
variable {X:Cx} {es:List Expr} {kt:Nat} {pt:Pos}
theorem ao4 {a:Expr} {p pos:Pos} (hc:X.calm=true) (hg:Gl X "enumerate") (hm:X.mg "enumerate" = none) (hv:bootBuiltins "enumerate" = some (.type "enumerate")) (ha:PA3 X [a] ta) (hs:starEach [a] X.env=[(false,eval a X.env)]):PIS X (.Tuple es kt pt) (.Call (.Name "enumerate" p) [a] [] pos) (a6X ta):=by
 intro pins s σ H R I h _tk;obtain ⟨ρ,G,R3,sr,g,q,k⟩:=h
 refine Call_ (rG I hg hm hv (PyProof.Rows.callWith_type1 (cL (ha pos pins s σ H (fun vs H1=>Ts H H1/\∃ ds G1,bV X.K H1 ds vs/\HR X.K H1 G1/\(match ds with
  | [.ref a]=>(match aL G1 a with
   | some ds=>R3 (.enu a ds) G1
   | none=>False)
  | _=>False)) I ⟨ρ,G,_,sr,g,q,fun vs H1 ds G1 t1 r1 g1 q1=>⟨t1,ds,G1,r1,g1,q1⟩⟩) fun us s1 ⟨vs,H1,I1,rr,t1,ds,G1,r1,g1,q1⟩=>?_) hs rfl))
 split at q1
 ·rename_i l;split at q1
  ·rename_i ds e1;cases r1 with
   | cons ra rb =>
    cases rb;cases ra;cases rr with
    | cons ru rn =>
     cases rn;cases ru;obtain ⟨xs,hq,rv⟩:=bN g1 e1;obtain ⟨its,rv',pp,hz⟩:=I1.list hq
     have al:l < s1.heap.objs.size:=by
      obtain ⟨o,ho,_⟩:=pp.isList;exact cg ho
     refine call_enumerate_list pp.isList fun h' he hi hsz kk=>wpAny_pyIter_enum (s:={ s1 with heap:=h' }) he ?_;refine ⟨_,_,_,_,H1,rfl,I1.kept (t':=s1.toks) kk,(show Turn X.calm X.tp X.prog X.w X.K (.Tuple es kt pt) _ _ _ _ from hc ▸ afW (e:=s1.heap.objs.size+1) (it:=s1.heap.objs.size) (l:=l) (Nat.succ_ne_self _) (gk al) (yq (vm al))),⟨⟨_,he⟩,hi⟩,fun b hb=>?_,k _ _ H1 _ t1 g1 aiV q1⟩
     have hb':s1.heap.objs.size<=b:=by
      simp only [jc,zj,or_false] at hb;rcases hb with e | e <;> rw [e]
      ·exact Nat.le_add_right _ _
      ·exact au _
     exact I1.yL hb' (I1.hok.fresh hb')
  ·exact q1.elim
 ·exact q1.elim
theorem zA {K:Fg} {H:Hp}:∀ {ns:List Int} {vs:List V},bV K H (ns.map D.int) vs->vs=ns.map V.int
 | [],_,.nil=>rfl
 | n :: ns,_,.cons r rr=>by cases r;rw [zA rr];rfl
end
end
section
section
variable {X:Cx}
open Classical in
end
end
section
open PySem.W
section
variable {X:Cx}
end
section
variable {X:Cx}
end
end
section
open PySem.W
section
variable {X:Cx}
noncomputable def VS:List Str->List V->List (Value×Value)->Prop
 | [],[],[]=>True
 | k :: ks,w :: ws,u :: us=>(∃ t,u.1 = .str k t)/\RelV w u.2/\VS ks ws us
 | _,_,_=>False
noncomputable def PDs (X:Cx) (pos:Pos) (keys:List (Option Expr)) (values:List Expr) (ks:List Str) (t:pK):Prop :=
 ∀ (pins:List (Addr×Obj)) (s:Shared) (σ:St) (H:Hp) (Q:List V->Hp->Prop),Inv X pins σ H s->upA X.K t σ H Q->[Tk X.need s] ->
  wpAny (model X.prog X.w) X.A (evalPairs (pairTrees keys values X.env pos)) (fun us s'=>∃ ws H',Inv X pins σ H' s'/\VS ks ws us/\Q ws H') X.xe s
theorem ao5 {pos:Pos}:PDs X pos [] [] [] aD:=fun pins s σ H Q I h=>by
 obtain ⟨ρ,G,R,sr,g,q,kk⟩:=h;exact pairTrees_nil_walk ⟨[],H,I,trivial,kk [] H [] G (.refl H) .nil g q⟩
theorem aiW {pos p1:Pos} {j1:Nat} {k:Str} {v:Expr} {keys:List (Option Expr)} {values:List Expr} {ks:List Str} {tv:cF} {t:pK} (hv:cM X v tv) (hr:PDs X pos keys values ks t) :
  PDs X pos (some (.Constant (.str k) j1 p1) :: keys) (v :: values) (k :: ks) (aB tv t):=fun pins s σ H Q I h=>by
 obtain ⟨ρ,G,R,sr,g,q,kk⟩:=h;refine pairTrees_cons_walk (Calls.Constant_str (k:=j1) (pos:=p1) ?_);refine cL (hv pins _ σ H (fun vv H1=>Ts H H1/\∃ d G1,RD X.K H1 d vv/\HR X.K H1 G1/\t ρ G1 fun ds G2=>R (d :: ds) G2) (I.tok _) ⟨ρ,G,_,sr,g,q,fun vv H1 d G1 t1 r1 g1 q1=>⟨t1,d,G1,r1,g1,q1⟩⟩) fun uv s2 ⟨vv,H1,I1,rv,t1,d,G1,rd,g1,q1⟩=>?_;exact cL (hr pins s2 σ H1 (fun ws H2=>Ts H1 H2/\∃ ds G2,bV X.K H2 ds ws/\HR X.K H2 G2/\R (d :: ds) G2) I1 ⟨ρ,G1,_,sr.mono t1,g1,q1,fun ws H2 ds G2 t2 r2 g2 q2=>⟨t2,ds,G2,r2,g2,q2⟩⟩) fun us s3 ⟨ws,H2,I2,vs,t2,ds,G2,rds,g2,q2⟩=>⟨vv :: ws,H2,I2,⟨⟨_,rfl⟩,rv,vs⟩,kk (vv :: ws) H2 (d :: ds) G2 (t1.trans t2) (.cons (rd.mono t2) rds) g2 q2⟩
end
end
section
open PySem.W
noncomputable abbrev Cx.ask (X:Cx):Cx:={ X with need:=true }
theorem Inv.ask {σ:St} {H:Hp} {s:Shared} (I:Inv X pins σ H s):Inv X.ask pins σ H s :=
 let o:=I.ok
 ⟨⟨o.mod,o.kind,o.glob,o.blt,o.above,o.inj,o.has,o.cab,o.hd,o.frames,o.stk,o.exf,o.bs,o.bsz,o.a3E,o.a5R,o.nU,o.frf⟩,I.os,I.bare,I.base,I.loc,I.cell,I.free,I.jG,I.pin,I.hok,I.len,I.hnd,I.tup⟩
theorem Inv.aqV {σ:St} {H:Hp} {s:Shared} (I:Inv X.ask pins σ H s):Inv X pins σ H s :=
 let o:=I.ok
 ⟨⟨o.mod,o.kind,o.glob,o.blt,o.above,o.inj,o.has,o.cab,o.hd,o.frames,o.stk,o.exf,o.bs,o.bsz,o.a3E,o.a5R,o.nU,o.frf⟩,I.os,I.bare,I.base,I.loc,I.cell,I.free,I.jG,I.pin,I.hok,I.len,I.hnd,I.tup⟩
theorem Cat.ask (h:Cat X EX):Cat X.ask EX:=⟨fun pins σ H s ρ e s' I sr c=>h.a8Q pins σ H s ρ e s' I.aqV sr c⟩
theorem Thr.ask (h:Thr X EX):Thr X.ask EX:=⟨fun pins σ H s ρ C e us h' I sr m c=>h.made pins σ H s ρ C e us h' I.aqV sr m c⟩
structure a9B (qt:Bool) (P:Program) (w:World) (K:bw) (mg:Str->Option Value) (base:Heap) (CX:CXT) (k:Nat) (f:Addr) (fd:FuncData) (ps:List Str) (sp:Sp):Prop where
 len:∀ vs H Q E,sp vs H Q E->vs.length=ps.length
 run:∀ (A:Around) (outer:List Env) (s:Shared) (H:Hp) (args:Args) (us:List Value) (vs:List V) (Q:VK) (E:XK),cR qt k A->vK P w K mg base A outer s H->BindsTo s fd args (ps.zip us)->Vals vs us->sp vs H Q E->0 < s.toks ->
  codeAny (model P w) A (.call (.ref f) args) (CR CX outer P w H s Q E) s
theorem a9B.mono {qt:Bool} {P:Program} {w:World} {K:bw} {mg:Str->Option Value} {base:Heap} {CX:CXT} {j k:Nat} {f:Addr} {fd:FuncData} {ps:List Str} {sp:Sp} (F:a9B qt P w K mg base CX j f fd ps sp) (h:j<=k):a9B qt P w K mg base CX k f fd ps sp :=
 ⟨F.len,fun A outer s H args us vs Q E hr=>F.run A outer s H args us vs Q E (hr.mono h)⟩
section
variable {X:Cx} {k:Nat} {f:Addr} {fd:FuncData} {ps:List Str} {sp:iT} {EX:aN->aV} {x:Str} {p pos:Pos} {e:Expr} {es:List Expr} {t:pK}
end
end
section
open PySem.W
section
variable {M:Model} {A:Around} {E:Value->Shared->Prop} {s₀ s:Shared} {env:Env}
end
end
section
open PySem.W
section
variable {X:Cx} {pins:List (Addr×Obj)} {σ:St} {H:Hp} {s:Shared}
theorem a6Y (I:Inv X pins σ H s) {b:Addr} (r:RD X.K H (.tup (ns.map D.int)) (.ref b)):∃ its,IsTup s.heap b its/\IntsAre its.toList ns:=by
 cases r with
 | @tup _ ys _ hb rbs eb =>
  obtain ⟨its,vi,p,_⟩:=I.tuple hb;have e:ys=ns.map V.int:=zA rbs;subst e;exact ⟨its.toArray,p,by simpa using intsAre_of vi⟩
end
end
section
open PySem.W
structure oV where
 qual:Str
 params:Arguments
 body:Expr
 scope:Scope
 x:Str
 pos:Pos
noncomputable def sO (qt:Bool) (P:Program) (w:World) (K:Fg) (mg:Str->Option Value) (base:Heap) (k:Nat) (c:oV) (sp:iT):Prop :=
 ∀ (A:Around) (outer:List Env) (s:Shared) (H:Hp) (us:List Value) (vs:List V) (ds:List D) (d:D) (G:Gp) (R:dX) (E:XK) (f cc c':Addr) (pm ctv u:Value) (vv:V),cR qt k A->vK P w K mg base A outer s H->HR K H G->H f=some (frO (kla_obj "<lambda>" c.qual c.params c.body c.scope [(c.x,cc)] pm c' ctv))->uU H c' c.qual ->
  s.heap.IsCell cc (some u)->H cc=none->RelV vv u->RD K H d vv->Vals vs us->bV K H ds vs->sp (d :: ds) G R (fun _ _=>False) ->
  codeAny (model P w) A (.call (.ref f) ⟨us,[]⟩) (CR (jB P w) outer P w H s (fun v H'=>∃ d' G2,RD K H' d' v/\HR K H' G2/\R d' G2) E) s
noncomputable def spL (n m:Nat) (te:cF):iT:=fun ds G R _=>ds.length=m/\te (pO n ds) G R
theorem av5 {qt:Bool} {w:World} {K:Fg} {mg:Str->Option Value} {base:Heap} {k:Nat} {c:oV} {N ps:List Str} (S:ScX N ps c.x c.scope) (a0V:∀ y∈c.scope.names,y.1=c.x->y.2 ≠ .cell)
  (hb:∀ (cl:List (Str×Addr)) (pm cdv ctv:Value) (us:List Value),us.length=ps.length->bindArgs (kla_fn "<lambda>" c.qual c.params c.body c.scope cl pm cdv ctv) ⟨us,[]⟩=pure (ps.zip us))
  (hbody:∀ (f c' cc:Addr) (A:Around) (outer:List Env) (s:Shared) (H:Hp),cR qt k (A.deeper (lQ c.qual c.scope s.heap.objs.size f (.ref c') [(c.x,cc)])) ->
   cM (cxX qt (jB P w) P w K mg base N c.qual c.scope f (.ref c') c.x cc A outer s H (fun _ _ _=>False)) c.body te) :
  sO qt P w K mg base (k+1) c (spL N.length (ps.length+1) te):=by
 intro A outer s H us vs ds d G R E f cc c' pm ctv u vv hr e0 g hf rc hc hH rv rd rvs rds hsp;obtain ⟨hl,hq⟩:=hsp;have hl':vs.length=ps.length:=by rw [← rds.length];simpa using hl
 refine an2 S a0V hr e0 hf rc hc hH rv (hb _ _ _ _ us (by rw [← rvs.length];exact hl')) rvs hl' (fun e s' z=>?_) fun hr2=>?_
 ·obtain ⟨_,_,_,_,_,_,_,_,_,_,_,_,z⟩:=z;exact z
 ·refine ⟨_,hbody f c' cc A outer s H hr2,pO N.length (d :: ds),G,_,?_,g,hq,fun v H' d' G' _ r1 g1 q1=>⟨d',G',r1,g1,q1⟩⟩;unfold pO start;rw [show (d :: ds).length=(vv :: vs).length by simp [rds.length]];exact SR.entry (.cons rd rds)
section
variable {X:Cx} {pins:List (Addr×Obj)} {σ:St} {H:Hp} {s:Shared} {h':Heap}
theorem Inv.aiX {a:Addr} {o:HO} (I:Inv X pins σ H s) (k:∀ b u,b ∉ ch->s.heap.get? b=some u->h'.get? b=some u) (hc:∀ b∈ch,j8 X pins H b) (ha:a∈ch) (new:iR X.prog X.w (upd H a o) h' a o):Inv X pins σ (upd H a o) { s with heap:=h',toks:=t' }:=by
 have nit:∀ b u,H b=some u->b ∉ ch:=fun b u e z=>by rw [(hc b z).1] at e;cases e
 have fr:H a=none:=(hc a ha).1;have sn:Same H (upd H a o):=bC fr;refine I.step (g':=s.gens) (d':=s.drawn) (ch:=ch) (fun b hb=>?_) (fun b o _ _ hn e _=>k b o hn e) (fun b o _ _ hn e _=>⟨o.slots,k b o hn e⟩) (fun b u hn e n=>by rw [aQ (show b≠a from fun z=>hn (by rw [z];exact ha))];exact n) (fun b o hn e=>⟨o,k b o hn e⟩) (fun b xs e=>sn _ _ e) (fun b o u e=>sn _ _ e) (fun b ps e=>⟨#[],by rw [sn _ _ e];simp⟩) (fun m hm=>?_) (fun b u e=>?_) I.bare
 ·obtain ⟨_,f1,_,f3,f4,f5⟩:=hc b hb;exact ⟨f3,f1,f4,f5⟩
 ·obtain ⟨o,es,ep,ho,r⟩:=hm;exact ⟨o,es,ep,k _ o (fun z=>(hc _ z).2.1 rfl) ho,r⟩
 ·by_cases hb:b=a
  ·subst hb;rw [aH] at e;cases e;exact new
  ·rw [aQ hb] at e;refine (I.hok b u e).stay (fun c v hcc q=>k c v ?_ q) (fun _ q=>sn _ _ q) fun _ _ q=>sn _ _ q;rcases hcc with z | z
   ·rw [z];exact nit b u e
   ·exact nit c _ z
theorem j8.nfr {b:Addr} (I:Inv X pins σ H s) (h:j8 X pins H b):b ∉ frs X.stack:=by
 rcases I.ok.stk with e | ⟨e,hf⟩
 ·rw [e];exact h.2.2.1
 ·rw [e];unfold frs;rw [a01,hf];intro z;rcases jc.mp z with z | z
  ·exact h.2.1 z
  ·exact h.2.2.1 z
theorem j8.un {b:Addr} {o:Obj} (h:j8 X pins H b) (e:s.heap.get? b=some o) (u:Un (frs X.stack) [] H H' s.heap s'.heap):j8 X pins H' b:=⟨u.free b o e h.1 (by simp),h.2⟩
def zP (X:Cx) (c:oV) (f c' cc:Addr) (H:Hp):Prop:=(∃ ctv,H f=some (frO (kla_obj "<lambda>" c.qual c.params c.body c.scope [(c.x,cc)] ((X.mg "__name__").getD .none) c' ctv)))/\uU H c' c.qual
theorem zP.un {c:oV} {f c' cc:Addr} {fs ex:List Addr} {h1 h2:Heap} (l:zP X c f c' cc H) (u:Un fs ex H H' h1 h2):zP X c f c' cc H':=by
 obtain ⟨⟨ctv,e⟩,r⟩:=l;exact ⟨⟨ctv,u.eZ _ _ _ e⟩,r.keep fun a o φ q=>u.eZ _ _ _ q⟩
variable {qt:Bool} {k ix:Nat} {c:oV} {sp:iT} {f c' cc:Addr} {vc:V} {dx:D}
theorem aiY (LO:sO qt X.prog X.w X.K X.mg X.base k c sp) (hr:cR qt k X.A.in1.in1) (I:Inv X pins σ H s) {G:Gp} (g:HR X.K H G) (la:zP X c f c' cc H) (hcc:X.env.cells.lookup c.x=some cc) (hN:X.N[ix]?=some c.x) (hx:X.env.scope.names.lookup c.x=some .cell) (hv:σ[ix]?=some (some vc)) (rdc:RD X.K H dx vc) {v:V} {d:D} (ru:RelV v u) (rd:RD X.K H d v) (q:sp [dx,d] G R (fun _ _=>False)) :
  wpAny (model X.prog X.w) X.A.in1.in1 (call (.ref f) [u]) (fun ku s'=>∃ kv H' kd G',Inv X pins σ H' s'/\Un (frs X.stack) [] H H' s.heap s'.heap/\RelV kv ku/\RD X.K H' kd kv/\HR X.K H' G'/\R kd G') (fun _ _=>False) s:=by
 obtain ⟨⟨ctv,hf⟩,rc⟩:=la;obtain ⟨m,hn,hl⟩:=I.loc;obtain ⟨uc,ruc,lk⟩:=hl ix c.x vc hN hv (.inr (.inl hx))
 have hcell:s.heap.IsCell cc (some uc):=by
  rcases lk with ⟨kl,_⟩ | ⟨_,c0,e0,z⟩
  ·have kl:X.env.scope.names.lookup c.x=some .local:=kl;rw [hx] at kl;cases kl
  ·rw [hcc] at e0;cases e0;exact z
 have e1:=I.env0;refine wpAny_call (codeAny_mono (LO X.A.in1.in1 X.stack s H [u] [v] [d] dx G R (fun _ _ _=>False) f cc c' _ ctv uc vc hr ⟨e1.frames,e1.mod,e1.bs,e1.bsz,e1.nU,e1.frf,e1.hok,e1.bare,e1.hnd⟩ g hf rc hcell (I.jG _ _ hcc) ruc rdc (.cons ru .nil) (.cons rd .nil) q) fun r s' hq=>?_);cases r with
 | error e =>
  obtain ⟨_,_,_,_,_,_,_,_,_,_,_,_,z⟩:=hq;exact z.elim
 | ok fl =>
  cases fl with
  | ret u =>
   obtain ⟨v,H',os,bare,un,hok,r,d',G2,r2,g2,q2⟩:=hq;exact ⟨v,H',d',G2,I.call' (ch:=[]) os un hok bare (fun b z=>absurd z (by simp)),un,r,r2,g2,q2⟩
  | next=>exact False.elim hq
  | brk=>exact False.elim hq
  | cont=>exact False.elim hq
end
noncomputable def sS (sp:iT) (dx:D) (C:List D->Gp->Prop):List D->List D->Gp->Prop
 | [],ks,G=>C ks G
 | d :: ds,ks,G=>sp [dx,d] G (fun k G'=>sS sp dx C ds (ks++[k]) G') (fun _ _=>False)
theorem Vals.snoc {v:V} {u:Value} (h:RelV v u):∀ {vs:List V} {us:List Value},Vals vs us->Vals (vs++[v]) (us++[u])
 | _,_,.nil => .cons h .nil
 | _,_,.cons a r => .cons a (Vals.snoc h r)
theorem bV.snoc {K:Fg} {H:Hp} {d:D} {v:V} (h:RD K H d v):∀ {ds:List D} {vs:List V},bV K H ds vs->bV K H (ds++[d]) (vs++[v])
 | _,_,.nil => .cons h .nil
 | _,_,.cons a r => .cons a (bV.snoc h r)
structure KSt (X:Cx) (pins:List (Addr×Obj)) (σ:St) (H1:Hp) (c:oV) (f c' cc kS a:Addr) (e1:Nat) (ks:List D) (C:Gp->Prop) (s:Shared):Prop where
 ex:∃ H G kvs kus e,Inv X pins σ H s/\HR X.K H G/\Ts H1 H/\zP X c f c' cc H/\j8 X pins H kS/\j8 X pins H a/\bV X.K H ks kvs/\Vals kvs kus/\s.heap.get? kS=some (seqObj "list" kus.toArray e)/\s.heap.get? a=some (seqObj "list" #[] e1)/\C G
theorem zB {K:Fg} {H:Hp} {ds:List D} {xs:List V} (r:bV K H ds xs):∀ {l:List Nat},(∀ i∈l,i < ds.length)->bV K H (l.map fun i=>ds.getD i .non) (l.map fun i=>xs.getD i .non)
 | [],_ => .nil
 | i :: l,h=>by
  have hi:=h i (by simp);obtain ⟨v,e1,rd⟩:=r.get (dj hi);have e2:xs.getD i .non=v:=by simp [iz,e1]
  have e3:ds.getD i .non=ds[i]:=by simp [iz,hi]
  refine .cons ?_ (zB r fun j hj=>h j (by simp [hj]));show RD K H (ds.getD i .non) (xs.getD i .non);rw [e2,e3];exact rd
section
variable {X:Cx} {pins:List (Addr×Obj)} {σ:St} {H:Hp} {s:Shared} {qt:Bool} {k ix:Nat} {c:oV} {sp:iT} {f c' cc:Addr} {vc:V} {dx:D}
end
end
section
open PySem.W
section
variable {X:Cx} {qt:Bool} {k ix:Nat} {c:oV} {sp:iT} {T cC cc:Addr} {e:Expr} {te:cF} {p pos kp:Pos}
noncomputable def aF2 (X:Cx) (T:Addr) (c:oV) (cc:Addr):TE:=fun σ H Q=>∃ ps,H T=some (.vH ps)/\wR H c.qual c.pos ps /\
 ∀ f c' ps' H',zP X c f c' cc H'->H' T=some (.vH ps')->wR H' c.qual c.pos ps'->H f=none->(∀ b u,b≠T->H b=some u->H' b=some u)->Q (.ref f) H'
theorem aAQ (hC:CodeHd X.base cC T) (hbt:X.base.BuiltinsAt X.mg T) (hcode:X.env.code = .ref cC) (hcl:closureFor c.scope X.env=pure [(c.x,cc)]) (hd:defaultsOf c.params X.env=([],[])) (hq:X.env.qual ++ "<lambda>" = c.qual) :
  PE X (.Lambda c.params c.body c.scope c.pos) (aF2 X T c cc):=by
 intro pins s σ H Q I h _tk;obtain ⟨ps,hT,st,h⟩:=h;refine kla_eval hd ?_;rw [hq];exact atO I hT st hC hbt hcode hcl fun f c' ctv ps' H' s' I' ff hf rc hT' st' kp=>⟨.ref f,H',I',rfl,h f c' ps' H' ⟨⟨ctv,hf⟩,rc⟩ hT' st' ff kp⟩
end
end
section
open PySem.W
section
variable {X:Cx}
end
end
end L2
namespace TS
open PySem PyProof.Rows
noncomputable def n6:Bool->Keyed->Array Keyed->Nat->Nat->Nat->StateT SortSt Sem (Option Nat):=sortPriv% PySem.Builtin.gallop
noncomputable def xA:Array Keyed->Array Keyed->StateT SortSt Sem (Array Keyed):=sortPriv% PySem.Builtin.mergeLo
noncomputable def xB:Array Keyed->Array Keyed->StateT SortSt Sem (Array Keyed):=sortPriv% PySem.Builtin.mergeHi
noncomputable abbrev setG (st:SortSt) (g:Nat):SortSt:=SortSt.mk' (kindOf st) (arrOf st) (pendingOf st) g (failedOf st)
noncomputable abbrev ao6 (st:SortSt) (a:Array Keyed):SortSt:=SortSt.mk' (kindOf st) a (pendingOf st) (gallopOf st) (failedOf st)
noncomputable abbrev av6 (st:SortSt) (a:Array (Nat×Nat×Nat)):SortSt:=SortSt.mk' (kindOf st) (arrOf st) a (gallopOf st) (failedOf st)
theorem abJ (left:Bool) (k0:Keyed) (a0:Array Keyed) (b0 n h0:Nat):n6 left k0 a0 b0 n h0=(do
 let bf (i:Nat):StateT SortSt Sem (Option Bool):=do
  let x ← elem' a0 (b0+i)
  if left then lt' x k0 else return (← lt' k0 x).map (!·)
 let mut u1:=0
 let mut u2:=1
 let mut c1:=0
 let mut c2:=0
 let some r0 ← bf h0 | return none
 if r0 then
  let u3:=n - h0
  for _ in [0:n] do
   if u2≥u3 then break
   let some r1 ← bf (h0+u2) | return none
   if !r1 then break
   u1:=u2
   u2:=2 * u2+1
  c1:=h0+u1+1
  c2:=h0+min u2 u3
 else
  let u3:=h0+1
  for _ in [0:n] do
   if u2≥u3 then break
   let some r2 ← bf (h0 - u2) | return none
   if r2 then break
   u1:=u2
   u2:=2 * u2+1
  c1:=h0+1 - min u2 u3
  c2:=h0 - u1
 for _ in [0:n] do
  if c1≥c2 then break
  let m:=c1+(c2 - c1) / 2
  let some r1 ← bf m | return none
  if r1 then c1:=m+1 else c2:=m
 return some c2):=rfl
variable {p:Array Nat}{left:Bool}{key:Nat}
section
variable {M:Model} {A:Around} {E:Value->Shared->Prop} {s:Shared} {f:Nat->Keyed} {kf:Nat->Int} {N:Nat} {κ:SortKind}
noncomputable def a3P (M:Model) (A:Around) (E:Value->Shared->Prop) (s:Shared) (f:Nat->Keyed) (kf:Nat->Int) (N:Nat) (κ:SortKind):Prop :=
 ∀ (i j:Nat) (st:SortSt) (Q:Option Bool->SortSt->Prop),i < N->j < N->kindOf st=κ->Q (some (decide (kf i < kf j))) st->wpS M A E s (lt' (f i) (f j)) Q st
noncomputable abbrev at' (p:Array Nat) (i:Nat):Nat:=p.getD i 0
def In (N:Nat) (p:Array Nat):Prop:=∀ i,i < p.size->at' p i < N
theorem bD {i:Nat} {st:SortSt} {Q:Keyed->SortSt->Prop} (hi:i < p.size) (h:Q (f (at' p i)) st):wpS M A E s (elem' (p.map f) i) Q st:=by
 have e:(p.map f)[i]?=some (f (at' p i)):=by simp [at',qb,hi]
 rw [elem'_eq,e];exact wpS_pure h
noncomputable def pL (kf:Nat->Int) (left:Bool) (key x:Nat):Bool:=if left=true then decide (kf x < kf key) else !decide (kf key < kf x)
noncomputable abbrev aAR (left:Bool) (key:Keyed) (arr:Array Keyed) (i:Nat):StateT SortSt Sem (Option Bool):=do
 let x ← elem' arr i
 if left then lt' x key else return (← lt' key x).map (!·)
theorem a6Z (hL:a3P M A E s f kf N κ) (hk:key < N) (hp:In N p) {i:Nat} (hi:i < p.size) {st:SortSt} (hs:kindOf st=κ) {Q:Option Bool->SortSt->Prop} (h:Q (some (pL kf left key (at' p i))) st) :
  wpS M A E s (aAR left (f key) (p.map f) i) Q st:=by
 refine wpS_bind (bD hi ?_);unfold pL at h;cases left with
 | true =>
  simp only [if_true] at h ⊢;exact hL _ _ _ _ (hp _ hi) hk hs h
 | false =>
  simp only [fj,if_false] at h ⊢;exact wpS_bind (hL _ _ _ _ hk (hp _ hi) hs (wpS_pure h))
theorem aj0 (hL:a3P M A E s f kf N κ) (hk:key < N) (hp:In N p) {base n:Nat} (hb:base+n<=p.size) (mono:∀ i j,i<=j->j < n->pL kf left key (at' p (base+j))=true->pL kf left key (at' p (base+i))=true)
  {st:SortSt} (hs:kindOf st=κ) {lo hi:Nat} (h1:lo<=hi) (h2:hi<=n) (hlo:∀ i,i < lo->pL kf left key (at' p (base+i))=true) (hhi:∀ i,hi<=i->i < n->pL kf left key (at' p (base+i))=false) :
  wpS M A E s (forIn [:n] (none,lo,hi) fun (x:Nat) (__s:Option (Option Nat)×Nat×Nat) =>
    if __s.snd.fst≥__s.snd.snd then pure (ForInStep.done (none,__s.snd.fst,__s.snd.snd))
    else do
     let __x ← aAR left (f key) (p.map f) (base+(__s.snd.fst+(__s.snd.snd - __s.snd.fst) / 2))
     match __x with
     | some more =>
      if more=true then pure (ForInStep.yield (none,__s.snd.fst+(__s.snd.snd - __s.snd.fst) / 2+1,__s.snd.snd))
      else pure (ForInStep.yield (none,__s.snd.fst,__s.snd.fst+(__s.snd.snd - __s.snd.fst) / 2))
     | x=>pure (ForInStep.done (some none,__s.snd.fst,__s.snd.snd))) (fun c st'=>st'=st/\∃ l r,c=(none,l,r)/\l=r/\r<=n/\(∀ i,i < l->pL kf left key (at' p (base+i))=true)/\(∀ i,r<=i->i < n->pL kf left key (at' p (base+i))=false)) st:=by
 refine (wpS_forRange (I:=fun x c st'=>st'=st/\∃ l r,c=(none,l,r)/\l<=r/\r<=n/\r+x<=n+l/\(∀ i,i < l->pL kf left key (at' p (base+i))=true)/\(∀ i,r<=i->i < n->pL kf left key (at' p (base+i))=false)) ?step ?fin ⟨rfl,lo,hi,rfl,h1,h2,by omega,hlo,hhi⟩)
 case fin =>
  rintro c st' ⟨rfl,l,r,rfl,a0,a1,a4,a2,a3⟩;exact ⟨rfl,l,r,rfl,by omega,a1,a2,a3⟩
 case step =>
  rintro x c st' _ hx ⟨rfl,l,r,rfl,a0,a1,a4,a2,a3⟩;dsimp only;by_cases hge:l≥r
  ·rw [if_pos hge];exact wpS_pure ⟨rfl,l,r,rfl,by omega,a1,a2,a3⟩
  ·rw [if_neg hge];refine wpS_bind (a6Z hL hk hp (by omega) hs ?_);cases e:pL kf left key (at' p (base+(l+(r - l) / 2))) with
   | true =>
    simp only [if_true];exact wpS_pure ⟨rfl,_,_,rfl,by omega,a1,by omega,fun i hi=>mono i (l+(r - l) / 2) (by omega) (by omega) e,a3⟩
   | false =>
    simp only [fj,if_false];refine wpS_pure ⟨rfl,_,_,rfl,by omega,by omega,by omega,a2,fun i hi hn=>?_⟩;cases e2:pL kf left key (at' p (base+i)) with
    | false=>rfl
    | true=>rw [mono _ i hi hn e2] at e;cases e
theorem zE (hL:a3P M A E s f kf N κ) (hk:key < N) (hp:In N p) {base n hint:Nat} (hb:base+n<=p.size) (hh:hint < n) (mono:∀ i j,i<=j->j < n->pL kf left key (at' p (base+j))=true->pL kf left key (at' p (base+i))=true)
  {st:SortSt} (hs:kindOf st=κ) {Q:Option Nat->SortSt->Prop}
  (h:∀ k,k<=n->(∀ i,i < k->pL kf left key (at' p (base+i))=true)->(∀ i,k<=i->i < n->pL kf left key (at' p (base+i))=false)->Q (some k) st) :
  wpS M A E s (n6 left (f key) (p.map f) base n hint) Q st:=by
 have neg:∀ i j,i<=j->j < n->pL kf left key (at' p (base+i))=false->pL kf left key (at' p (base+j))=false:=fun i j hij hj e=>by
  cases e2:pL kf left key (at' p (base+j)) with
  | false=>rfl
  | true=>rw [mono i j hij hj e2] at e;cases e
 rw [abJ];dsimp only;refine wpS_bind (a6Z hL hk hp (by omega) hs ?_);cases e0:pL kf left key (at' p (base+hint)) with
 | true =>
  simp only [if_true]
  refine wpS_bind (wpS_mono (wpS_forRange (I:=fun x c st'=>st'=st/\∃ l o,c=(none,l,o)/\l < o/\x < o/\hint+l < n/\pL kf left key (at' p (base+(hint+l)))=true)
   (Q:=fun c st'=>st'=st/\∃ l o,c=(none,l,o)/\l < o/\hint+l < n/\pL kf left key (at' p (base+(hint+l)))=true/\(n - hint<=o∨pL kf left key (at' p (base+(hint+o)))=false)) ?step ?fin ⟨rfl,0,1,rfl,by omega,by omega,by omega,e0⟩) ?post)
  case post =>
   rintro c st' ⟨rfl,l,o,rfl,a0,a1,a2,a3⟩;refine wpS_bind (wpS_mono (aj0 (lo:=hint+l+1) (hi:=hint+min o (n - hint)) hL hk hp hb mono hs (by omega) (by omega) (fun i hi=>mono i (hint+l) (by omega) a1 a2) (fun i hi hn=>?_)) fun c st2 z=>?_)
   ·rcases a3 with a3 | a3
    ·omega
    ·by_cases q:n - hint<=o
     ·omega
     ·exact neg (hint+o) i (by omega) hn a3
   ·obtain ⟨rfl,l,r,rfl,rfl,a1,a2,a3⟩:=z;exact wpS_pure (h l a1 a2 a3)
  case fin =>
   rintro c st' ⟨rfl,l,o,rfl,a0,a4,a1,a2⟩;exact ⟨rfl,l,o,rfl,a0,a1,a2,.inl (by omega)⟩
  case step =>
   rintro x c st' _ hx ⟨rfl,l,o,rfl,a0,a4,a1,a2⟩;dsimp only;by_cases hge:o≥n - hint
   ·rw [if_pos hge];exact wpS_pure ⟨rfl,l,o,rfl,a0,a1,a2,.inl hge⟩
   ·rw [if_neg hge];refine wpS_bind (a6Z hL hk hp (by omega) hs ?_);cases e:pL kf left key (at' p (base+(hint+o))) with
    | true =>
     simp only [zy,fj,if_false];exact wpS_pure ⟨rfl,_,_,rfl,by omega,by omega,by omega,e⟩
    | false =>
     simp only [Bool.not_false,if_true];exact wpS_pure ⟨rfl,l,o,rfl,a0,a1,a2,.inr e⟩
 | false =>
  simp only [fj,if_false]
  refine wpS_bind (wpS_mono (wpS_forRange (I:=fun x c st'=>st'=st/\∃ l o,c=(none,l,o)/\l < o/\x < o/\l<=hint/\pL kf left key (at' p (base+(hint - l)))=false)
   (Q:=fun c st'=>st'=st/\∃ l o,c=(none,l,o)/\l < o/\l<=hint/\pL kf left key (at' p (base+(hint - l)))=false/\(hint+1<=o∨pL kf left key (at' p (base+(hint - o)))=true)) ?step ?fin ⟨rfl,0,1,rfl,by omega,by omega,by omega,e0⟩) ?post)
  case post =>
   rintro c st' ⟨rfl,l,o,rfl,a0,a1,a2,a3⟩;refine wpS_bind (wpS_mono (aj0 (lo:=hint+1 - min o (hint+1)) (hi:=hint - l) hL hk hp hb mono hs (by omega) (by omega) (fun i hi=>?_) (fun i hi hn=>neg _ i (show hint - l<=i from hi) hn a2)) fun c st2 z=>?_)
   ·rcases a3 with a3 | a3
    ·exfalso;omega
    ·exact mono i (hint - o) (by omega) (by omega) a3
   ·obtain ⟨rfl,l,r,rfl,rfl,a1,a2,a3⟩:=z;exact wpS_pure (h l a1 a2 a3)
  case fin =>
   rintro c st' ⟨rfl,l,o,rfl,a0,a4,a1,a2⟩;exact ⟨rfl,l,o,rfl,a0,a1,a2,.inl (by omega)⟩
  case step =>
   rintro x c st' _ hx ⟨rfl,l,o,rfl,a0,a4,a1,a2⟩;dsimp only;by_cases hge:o≥hint+1
   ·rw [if_pos hge];exact wpS_pure ⟨rfl,l,o,rfl,a0,a1,a2,.inl hge⟩
   ·rw [if_neg hge];refine wpS_bind (a6Z hL hk hp (by omega) hs ?_);cases e:pL kf left key (at' p (base+(hint - o))) with
    | false =>
     simp only [fj,if_false];exact wpS_pure ⟨rfl,_,_,rfl,by omega,by omega,by omega,e⟩
    | true =>
     simp only [if_true];exact wpS_pure ⟨rfl,l,o,rfl,a0,a1,a2,.inr e⟩
end
end TS
namespace TS
open PySem PyProof.Rows
section
variable {kf:Nat->Int} {W o la lb l1 l2:List Nat}
abbrev Le (kf:Nat->Int) (x y:Nat):Prop:=kf x<=kf y
def Out (kf:Nat->Int) (W l:List Nat):Prop:=l.Pairwise (Le kf)/\l.Perm W
structure MI (kf:Nat->Int) (W o la lb:List Nat):Prop where
 ha:(o++la).Pairwise (Le kf)
 hb:(o++lb).Pairwise (Le kf)
 hp:(o++la++lb).Perm W
theorem MI.a (h:MI kf W o (l1++l2) lb) (q:∀ x∈l1,∀ y∈lb,kf x<=kf y):MI kf W (o++l1) l2 lb:=by
 obtain ⟨a,b,c⟩:=h;refine ⟨by simpa [jz] using a,?_,by simpa [jz] using c⟩;rw [jw] at a b;rw [jz,jw,jw];have a2:=jw.mp a.2.1;refine ⟨b.1,⟨a2.1,b.2.1,q⟩,fun x hx y hy=>?_⟩;rcases qe.mp hy with hy | hy
 ·exact a.2.2 x hx y (zc _ hy)
 ·exact b.2.2 x hx y hy
theorem MI.swap (h:MI kf W o la lb):MI kf W o lb la:=⟨h.hb,h.ha,(by rw [jz,jz];exact (List.perm_append_comm).append_left o:(o++lb++la).Perm (o++la++lb)).trans h.hp⟩
theorem MI.b (h:MI kf W o la (l1++l2)) (q:∀ x∈l1,∀ y∈la,kf x<=kf y):MI kf W (o++l1) la l2:=(h.swap.a q).swap
theorem MI.aj1 (h:MI kf W o la []):Out kf W (o++la++[]):=⟨by simpa using h.ha,h.hp⟩
theorem MI.aj2 (h:MI kf W o [] lb):Out kf W (o++[]++lb):=⟨by simpa using h.hb,h.hp⟩
theorem MI.last {x:Nat} (h:MI kf W o [x] lb) (q:∀ y∈lb,kf y<=kf x):Out kf W (o++lb++[x]):=by
 refine ⟨?_,h.swap.hp⟩;have a:=jw.mp h.ha;rw [jw];refine ⟨h.hb,by simp,fun y hy z hz=>?_⟩;rcases qe.mp hy with hy | hy
 ·exact a.2.2 y hy z hz
 ·rw [jt.mp hz];exact q y hy
end
section
variable {f:Nat->Keyed} {p:Array Nat}
theorem uM (i:Nat):((p.map f).extract i (p.map f).size).toList=(p.toList.drop i).map f:=by
 simp [a0j];exact vd (by simp)
theorem adI (i k:Nat):((p.map f).extract i (i+k)).toList=((p.toList.drop i).take k).map f:=by
 simp [a0j,a0k]
theorem a70 {i:Nat} (h:i < p.size):p.toList.drop i=[at' p i]++p.toList.drop (i+1):=by
 have h':i < p.toList.length:=by simpa using h
 rw [uh h'];simp [at',qb,h]
theorem a9C (i k:Nat):p.toList.drop i=(p.toList.drop i).take k++p.toList.drop (i+k):=by
 rw [← List.drop_drop,uf]
theorem sU {i:Nat} (h:i=p.size):p.toList.drop i=[]:=by
 subst h;simp
theorem fD {i x:Nat} (h:x∈p.toList.drop i):∃ j,i<=j/\j < p.size/\x=at' p j:=by
 obtain ⟨j,hj,e⟩:=zp.mp h;have hj':i+j < p.size:=by simpa [Nat.lt_sub_iff_add_lt,Nat.add_comm] using hj
 refine ⟨i+j,by omega,hj',?_⟩;rw [← e];simp [at',qb,hj']
theorem a1N {i k x:Nat} (h:x∈(p.toList.drop i).take k):∃ j,j < k/\i+j < p.size/\x=at' p (i+j):=by
 obtain ⟨j,hj,e⟩:=zp.mp h
 have hj':j < k/\i+j < p.size:=by
  have:j < min k (p.size - i):=by simpa using hj
  omega
 refine ⟨j,hj'.1,hj'.2,?_⟩;rw [← e];simp [at',qb,hj'.2]
end
def Up (kf:Nat->Int) (p:Array Nat):Prop:=∀ i j,i<=j->j < p.size->kf (at' p i)<=kf (at' p j)
variable {ia ib:Nat}
section
variable {M:Model} {A:Around} {E:Value->Shared->Prop} {s:Shared} {f:Nat->Keyed} {kf:Nat->Int} {N:Nat} {κ:SortKind} {pa pb:Array Nat} {W:List Nat}
def bB (st st':SortSt):Prop:=kindOf st'=kindOf st/\arrOf st'=arrOf st/\pendingOf st'=pendingOf st/\failedOf st'=failedOf st
theorem bB.rfl' {st:SortSt}:bB st st:=⟨rfl,rfl,rfl,rfl⟩
theorem bB.setG {st st':SortSt} (h:bB st st') (g:Nat):bB st (setG st' g):=h
def GoodR (f:Nat->Keyed) (kf:Nat->Int) (W:List Nat) (r:Array Keyed):Prop:=∃ l:List Nat,r.toList=l.map f/\Out kf W l
def LI (f:Nat->Keyed) (kf:Nat->Int) (W:List Nat) (pa pb:Array Nat) (out:Array Keyed) (ia ib:Nat):Prop:=∃ o:List Nat,out.toList=o.map f/\MI kf W o (pa.toList.drop ia) (pb.toList.drop ib)
theorem LI.a4X {out:Array Keyed} (h:LI f kf W pa pb out ia ib) (hb:ib < pb.size) (q:∀ j,ia<=j->j < pa.size->kf (at' pb ib)<=kf (at' pa j)):LI f kf W pa pb (out.push (f (at' pb ib))) ia (ib+1):=by
 obtain ⟨o,e,m⟩:=h;rw [a70 hb] at m;refine ⟨o++[at' pb ib],by simp [e],m.b fun x hx y hy=>?_⟩;obtain ⟨j,j1,j2,rfl⟩:=fD hy;rw [jt.mp hx];exact q j j1 j2
theorem LI.a1O {out:Array Keyed} (h:LI f kf W pa pb out ia ib) (ha:ia < pa.size) (q:∀ j,ib<=j->j < pb.size->kf (at' pa ia)<=kf (at' pb j)):LI f kf W pa pb (out.push (f (at' pa ia))) (ia+1) ib:=by
 obtain ⟨o,e,m⟩:=h;rw [a70 ha] at m;refine ⟨o++[at' pa ia],by simp [e],m.a fun x hx y hy=>?_⟩;obtain ⟨j,j1,j2,rfl⟩:=fD hy;rw [jt.mp hx];exact q j j1 j2
theorem LI.ao7 {out:Array Keyed} {k:Nat} (h:LI f kf W pa pb out ia ib) (q:∀ i j,i < k->ia+i < pa.size->ib<=j->j < pb.size->kf (at' pa (ia+i))<=kf (at' pb j)):LI f kf W pa pb (out++(pa.map f).extract ia (ia+k)) (ia+k) ib:=by
 obtain ⟨o,e,m⟩:=h;rw [a9C ia k] at m;refine ⟨o++(pa.toList.drop ia).take k,by rw [jd,adI,e,iy],m.a fun x hx y hy=>?_⟩;obtain ⟨j,j1,j2,rfl⟩:=fD hy;obtain ⟨i,i1,i2,rfl⟩:=a1N hx;exact q i j i1 i2 j1 j2
theorem LI.av7 {out:Array Keyed} {k:Nat} (h:LI f kf W pa pb out ia ib) (q:∀ i j,i < k->ib+i < pb.size->ia<=j->j < pa.size->kf (at' pb (ib+i))<=kf (at' pa j)):LI f kf W pa pb (out++(pb.map f).extract ib (ib+k)) ia (ib+k):=by
 obtain ⟨o,e,m⟩:=h;rw [a9C ib k] at m;refine ⟨o++(pb.toList.drop ib).take k,by rw [jd,adI,e,iy],m.b fun x hx y hy=>?_⟩;obtain ⟨j,j1,j2,rfl⟩:=fD hy;obtain ⟨i,i1,i2,rfl⟩:=a1N hx;exact q i j i1 i2 j1 j2
theorem LI.a4Y {out:Array Keyed} (h:LI f kf W pa pb out ia ib) (e:ib=pb.size):GoodR f kf W (out++(pa.map f).extract ia (pa.map f).size++(pb.map f).extract ib (pb.map f).size):=by
 obtain ⟨o,eo,m⟩:=h;rw [sU e] at m;exact ⟨_,by rw [jd,jd,uM,uM,sU e,eo];simp,m.aj1⟩
theorem LI.a4Z {out:Array Keyed} (h:LI f kf W pa pb out ia ib) (e:ia=pa.size):GoodR f kf W (out++(pa.map f).extract ia (pa.map f).size++(pb.map f).extract ib (pb.map f).size):=by
 obtain ⟨o,eo,m⟩:=h;rw [sU e] at m;exact ⟨_,by rw [jd,jd,uM,uM,sU e,eo];simp,m.aj2⟩
theorem LI.adJ {out:Array Keyed} (h:LI f kf W pa pb out ia ib) (e:ia+1=pa.size) (hl:∀ j,j < pb.size->kf (at' pb j)<=kf (at' pa (pa.size - 1))):GoodR f kf W (out++(pb.map f).extract ib (pb.map f).size++(pa.map f).extract ia (pa.map f).size):=by
 obtain ⟨o,eo,m⟩:=h;have e2:pa.toList.drop ia=[at' pa ia]:=by rw [a70 (by omega),sU e];rfl
 rw [e2] at m;refine ⟨_,by rw [jd,jd,uM,uM,e2,eo];simp,m.last fun y hy=>?_⟩;obtain ⟨j,j1,j2,rfl⟩:=fD hy;rw [show ia=pa.size - 1 by omega];exact hl j j2
end
end TS
namespace TS
open PySem PyProof.Rows
variable {p:Array Nat}{key:Nat}{Q:Array Keyed->SortSt->Prop}
section
variable {M:Model} {A:Around} {E:Value->Shared->Prop} {s:Shared} {f:Nat->Keyed} {kf:Nat->Int} {N:Nat} {κ:SortKind} {pa pb:Array Nat} {W:List Nat}
def LG (f:Nat->Keyed) (kf:Nat->Int) (W:List Nat) (pa pb:Array Nat) (out:Array Keyed) (ia ib n:Nat):Prop:=LI f kf W pa pb out ia ib/\ia+1 < pa.size/\ib < pb.size/\n<=ia+ib
theorem aK {α:Type} {c:Prop} [Decidable c] {m1 m2:StateT SortSt Sem α} {Q:α->SortSt->Prop} {st:SortSt} (h1:c->wpS M A E s m1 Q st) (h2:¬ c->wpS M A E s m2 Q st):wpS M A E s (if c then m1 else m2) Q st:=by
 split
 ·exact h1 ‹_›
 ·exact h2 ‹_›
theorem adK (u:Up kf p):p.toList.Pairwise (Le kf) :=
 qw.mpr fun i j hi hj hij=>by simpa [at',qb,show i < p.size by simpa using hi,show j < p.size by simpa using hj] using u i j (by omega) (by simpa using hj)
theorem a9D {x:Nat}:pL kf false key x=true↔kf x<=kf key:=by simp [pL]
theorem aj3 {x:Nat}:pL kf false key x=false↔kf key < kf x:=by simp [pL]
theorem abK {x:Nat}:pL kf true key x=true↔kf x < kf key:=by simp [pL]
theorem adL {x:Nat}:pL kf true key x=false↔kf key<=kf x:=by simp [pL]
theorem a0F (u:Up kf p) {left:Bool} {base n:Nat} (hb:base+n<=p.size) (i j:Nat) (hij:i<=j) (hj:j < n) (e:pL kf left key (at' p (base+j))=true):pL kf left key (at' p (base+i))=true:=by
 have:=u (base+i) (base+j) (by omega) (by omega);cases left with
 | true=>exact abK.2 (Int.lt_of_le_of_lt this (abK.1 e))
 | false=>exact a9D.2 (jo this (a9D.1 e))
noncomputable abbrev RA:Type:=Option (Array Keyed)
noncomputable def Stp {τ:Type} (M:Model) (A:Around) (E:Value->Shared->Prop) (s:Shared) (κ:SortKind) (G:Array Keyed->Prop) (D K:τ->Prop) (m:StateT SortSt Sem (ForInStep (RA×τ))):Prop :=
 ∀ (st:SortSt) (Q:ForInStep (RA×τ)->SortSt->Prop),kindOf st=κ->(∀ st',bB st st'->∀ v t,G v->Q (.done (some v,t)) st')->(∀ st',bB st st'->∀ t,(D t->Q (.done (none,t)) st')/\(K t->Q (.yield (none,t)) st'))->wpS M A E s m Q st
section
variable {α β γ:Type} (t:Nat) (S1:Nat->α->β->γ->Nat->Nat->StateT SortSt Sem (ForInStep (RA×α×β×γ×Nat×Nat))) (S2:α->β->γ->Nat->Nat->Nat->StateT SortSt Sem (ForInStep (RA×α×β×γ×Nat×Nat×Nat)))
noncomputable abbrev orB {τ:Type} (r:RA) (f:Array Keyed->StateT SortSt Sem τ) (m:StateT SortSt Sem τ):StateT SortSt Sem τ:=Break.runK.match_1 (fun _=>StateT SortSt Sem τ) r f fun _=>m
noncomputable def mgC (r:RA×α×β×γ×Nat×Nat×Nat):StateT SortSt Sem (ForInStep (RA×α×β×γ×Nat)) :=
 orB r.1 (fun v=>pure (.done (some v,r.2.1,r.2.2.1,r.2.2.2.1,r.2.2.2.2.1))) do
  modify fun s=>setG s (r.2.2.2.2.1+1)
  pure (.yield (none,r.2.1,r.2.2.1,r.2.2.2.1,r.2.2.2.2.1+1))
noncomputable def mgB (g:Nat) (r:RA×α×β×γ×Nat×Nat):StateT SortSt Sem (ForInStep (RA×α×β×γ×Nat)) :=
 orB r.1 (fun v=>pure (.done (some v,r.2.1,r.2.2.1,r.2.2.2.1,g))) do
  rule "list.sort.gallop"
  forIn [0:t] (none,r.2.1,r.2.2.1,r.2.2.2.1,g+1,r.2.2.2.2.1,r.2.2.2.2.2) (fun _ c=>S2 c.2.1 c.2.2.1 c.2.2.2.1 c.2.2.2.2.1 c.2.2.2.2.2.1 c.2.2.2.2.2.2) >>= mgC
noncomputable def mgO (c:RA×α×β×γ×Nat):StateT SortSt Sem (ForInStep (RA×α×β×γ×Nat)) :=
 forIn [0:t] (none,c.2.1,c.2.2.1,c.2.2.2.1,0,0) (fun _ d=>S1 c.2.2.2.2 d.2.1 d.2.2.1 d.2.2.2.1 d.2.2.2.2.1 d.2.2.2.2.2) >>= mgB t S2 c.2.2.2.2
noncomputable def mgE (r:RA×α×β×γ×Nat):StateT SortSt Sem (Array Keyed):=orB r.1 pure (unsupported "internal:list.sort.merge-bound")
noncomputable def mgA (i:α) (j:β) (o:γ):StateT SortSt Sem (Array Keyed):=do
 let w ← get
 forIn [0:t] (none,i,j,o,gallopOf w) (fun _ c=>mgO t S1 S2 c) >>= mgE
abbrev Hz {τ:Type} (H:Nat->α->β->γ->Prop) (n:Nat) (z:α×β×γ×τ):Prop:=H n z.1 z.2.1 z.2.2.1
variable {t} {S1} {S2} {G:Array Keyed->Prop} {H:Nat->α->β->γ->Prop} (h0:0 < t) (hm:∀ n i j o,H (n+1) i j o->H n i j o) (hz:∀ i j o,¬ H (t+1) i j o)
 (h1:∀ x g i j o c d,H (x+1) i j o->Stp M A E s κ G (Hz H (x+2)) (Hz H (x+2)) (S1 g i j o c d)) (h2:∀ x i j o g c d,H (x+2) i j o->Stp M A E s κ G (Hz H (x+2)) (Hz H (x+2)) (S2 i j o g c d)) {st:SortSt} (hs:kindOf st=κ)
def Ans {τ:Type} (G:Array Keyed->Prop) (K:τ->Prop) (c:RA×τ):Prop:=∃ r z,c=(r,z)/\((∃ v,r=some v/\G v)∨r=none/\K z)
theorem bB.trans {a b c:SortSt} (h:bB a b) (k:bB b c):bB a c:=⟨k.1.trans h.1,k.2.1.trans h.2.1,k.2.2.1.trans h.2.2.1,k.2.2.2.trans h.2.2.2⟩
theorem aj4 {τ:Type} {n:Nat} {b:Nat->RA×τ->StateT SortSt Sem (ForInStep (RA×τ))} {K:Nat->τ->Prop} {D:τ->Prop} (hb:∀ y z,K y z->Stp M A E s κ G D (K (y+1)) (b y (none,z))) (he:∀ z,K n z->D z) (hs:kindOf st=κ) {z:τ} (h:K 0 z):wpS M A E s (forIn [0:n] (none,z) b) (fun c st'=>bB st st'/\Ans G D c) st:=by
 refine wpS_forRange (I:=fun y c st'=>bB st st'/\∃ z,c=(none,z)/\K y z) ?_ ?_ ⟨bB.rfl',_,rfl,h⟩
 ·rintro y c st' _ hy ⟨S,z,rfl,k⟩;exact hb y z k _ _ (S.1.trans hs) (fun st2 S2 v t g=>⟨S.trans S2,_,_,rfl,.inl ⟨v,rfl,g⟩⟩) fun st2 S2 t=>⟨fun k=>⟨S.trans S2,_,_,rfl,.inr ⟨rfl,k⟩⟩,fun k=>⟨S.trans S2,_,rfl,k⟩⟩
 ·rintro c st' ⟨S,z,rfl,k⟩;rw [Nat.zero_max] at k;exact ⟨S,_,_,rfl,.inr ⟨rfl,he z k⟩⟩
include h0 hm h1 h2 in
theorem av8 {x:Nat} {c:α×β×γ×Nat} (h:Hz H (x+1) c):Stp M A E s κ G (fun _=>False) (Hz H (x+2)) (mgO t S1 S2 (none,c)):=by
 intro st Q hs hd hn;refine wpS_bind (wpS_mono (aj4 (G:=G) (K:=fun y z=>if y=0 then Hz H (x+1) z else Hz H (x+2) z) (D:=Hz H (x+2)) (fun y z k=>?_) (fun z k=>by rwa [if_neg (yq h0)] at k) hs (by exact h)) ?_)
 ·refine h1 x _ _ _ _ _ _ ?_;by_cases e:y=0
  ·rwa [if_pos e] at k
  ·rw [if_neg e] at k;exact hm _ _ _ _ k
 rintro c st' ⟨S,r,z,rfl,⟨v,rfl,g⟩ | ⟨rfl,k⟩⟩
 ·exact wpS_pure (hd st' S _ _ g)
 refine wpS_bind (wpS_lift (wpAny_rule ⟨rfl,wpS_bind (wpS_mono (aj4 (G:=G) (K:=fun _=>Hz H (x+2)) (D:=Hz H (x+2)) (fun y z k=>h2 x _ _ _ _ _ _ k) (fun z k=>k) (S.1.trans hs) k) ?_)⟩));rintro c st2 ⟨S2,r,z,rfl,⟨v,rfl,g⟩ | ⟨rfl,k⟩⟩
 ·exact wpS_pure (hd st2 (S.trans S2) _ _ g)
 ·exact wpS_bind (wpS_modify (wpS_pure ((hn _ ((S.trans S2).setG _) _).2 k)))
include h0 hm h1 h2 hz in
theorem aj5 (hs:kindOf st=κ) {i:α} {j:β} {o:γ} (h:H 1 i j o) (hq:∀ r st',bB st st'->G r->Q r st'):wpS M A E s (mgA t S1 S2 i j o) Q st:=by
 refine wpS_bind (wpS_get (wpS_bind (wpS_mono (aj4 (G:=G) (K:=fun y=>Hz H (y+1)) (D:=fun _=>False) (fun y z k=>av8 h0 hm h1 h2 k) (fun _ k=>hz _ _ _ k) hs (by exact h)) ?_)));rintro c st' ⟨S,r,z,rfl,⟨v,rfl,g⟩ | ⟨rfl,k⟩⟩
 ·exact wpS_pure (hq _ _ S g)
 ·exact k.elim
end
structure Bth (M:Model) (A:Around) (E:Value->Shared->Prop) (s:Shared) (f:Nat->Keyed) (kf:Nat->Int) (N:Nat) (κ:SortKind) (pa pb:Array Nat):Prop where
 hL:a3P M A E s f kf N κ
 ia:In N pa
 ib:In N pb
 ua:Up kf pa
 ub:Up kf pb
 na:1<=pa.size
 nb:1<=pb.size
 hf:kf (at' pb 0) < kf (at' pa 0)
 hl:∀ j,j < pb.size->kf (at' pb j)<=kf (at' pa (pa.size - 1))
noncomputable abbrev Lz:Type:=RA×Array Keyed×Nat×Nat×Nat×Nat×Nat
noncomputable def loF (a b o:Array Keyed) (i j:Nat):Array Keyed:=o++a.extract i a.size++b.extract j b.size
noncomputable def loG (a b o:Array Keyed) (i j:Nat):Array Keyed:=o++b.extract j b.size++a.extract i a.size
noncomputable def loS (a b:Array Keyed) (g:Nat) (o:Array Keyed) (i j c d:Nat):StateT SortSt Sem (ForInStep (RA×Array Keyed×Nat×Nat×Nat×Nat)):=do
 let y ← elem' b j
 let x ← elem' a i
 let w ← lt' y x
 match w with
 | some w =>
  if w=true then
   let y ← elem' b j
   if (j+1 == b.size)=true then pure (.done (some (loF a b (o.push y) i (j+1)),o.push y,i,j+1,0,d+1))
   else if d+1≥g then pure (.done (none,o.push y,i,j+1,0,d+1)) else pure (.yield (none,o.push y,i,j+1,0,d+1))
  else
   let x ← elem' a i
   if (i+1+1 == a.size)=true then pure (.done (some (loG a b (o.push x) (i+1) j),o.push x,i+1,j,c+1,0))
   else if c+1≥g then pure (.done (none,o.push x,i+1,j,c+1,0)) else pure (.yield (none,o.push x,i+1,j,c+1,0))
 | x=>pure (.done (some (loF a b o i j),o,i,j,c,d))
noncomputable def aj6 (a b o:Array Keyed) (i j g c d:Nat):StateT SortSt Sem (ForInStep Lz):=do
 let x ← elem' a i
 if (i+1+1 == a.size)=true then pure (.done (some (loG a b (o.push x) (i+1) j),o.push x,i+1,j,g,c,d))
 else if (decide (c < 7)&&decide (d < 7))=true then pure (.done (none,o.push x,i+1,j,g,c,d)) else pure (.yield (none,o.push x,i+1,j,g,c,d))
noncomputable def aj7 (a b o:Array Keyed) (i j g c d:Nat):StateT SortSt Sem (ForInStep Lz):=do
 let y ← elem' b j
 if (j+1 == b.size)=true then pure (.done (some (loF a b (o.push y) i (j+1)),o.push y,i,j+1,g,c,d))
 else do
  let x ← elem' a i
  let r ← n6 true x b (j+1) (b.size - (j+1)) 0
  match r with
  | some k=>if k > 0 then (if (j+1+k == b.size)=true then pure (.done (some (loF a b (o.push y++b.extract (j+1) (j+1+k)) i (j+1+k)),o.push y++b.extract (j+1) (j+1+k),i,j+1+k,g,c,k)) else aj6 a b (o.push y++b.extract (j+1) (j+1+k)) i (j+1+k) g c k) else aj6 a b (o.push y) i (j+1) g c k
  | x=>pure (.done (some (loF a b (o.push y) i (j+1)),o.push y,i,j+1,g,c,d))
noncomputable def loT (a b o:Array Keyed) (i j g c d:Nat):StateT SortSt Sem (ForInStep Lz):=do
 modify fun s=>setG s g
 let y ← elem' b j
 let r ← n6 false y a i (a.size - i) 0
 match r with
 | some k=>if k > 0 then (if (i+k+1 == a.size)=true then pure (.done (some (loG a b (o++a.extract i (i+k)) (i+k) j),o++a.extract i (i+k),i+k,j,g,k,d)) else if (i+k == a.size)=true then pure (.done (some (loF a b (o++a.extract i (i+k)) (i+k) j),o++a.extract i (i+k),i+k,j,g,k,d)) else aj7 a b (o++a.extract i (i+k)) (i+k) j g k d) else aj7 a b o i j g k d
 | x=>pure (.done (some (loF a b o i j),o,i,j,g,c,d))
theorem aAS (a b:Array Keyed):xA a b=(do
 rule "list.sort.merge-lo"
 let y ← elem' b 0
 if (1 == b.size)=true then pure (loF a b #[y] 0 1)
 else if (0+1 == a.size)=true then pure (loG a b #[y] 0 1)
 else mgA (a.size+b.size) (loS a b) (fun o i j g c d=>if g > 1 then loT a b o i j (g - 1) c d else loT a b o i j g c d) #[y] 0 1):=rfl
section
variable (B:Bth M A E s f kf N κ pa pb)
abbrev LH (f:Nat->Keyed) (kf:Nat->Int) (W:List Nat) (pa pb:Array Nat) (n:Nat) (o:Array Keyed) (i j:Nat):Prop:=LG f kf W pa pb o i j n
theorem bne {a b:Nat} (h:¬ (a == b)=true):a≠b:=fun z=>h (beq_iff_eq.mpr z)
theorem bnz {a:Nat} {f:Nat->Keyed} (h:¬ (a == (p.map f).size)=true):a≠p.size:=fun z=>h (beq_iff_eq.mpr (z.trans qj.symm))
theorem a71 {a:Nat} {f:Nat->Keyed} (h:(a == (p.map f).size)=true):a=p.size:=(eq_of_beq h).trans qj
include B
theorem a9E {o:Array Keyed} {i j g c d n:Nat} (L:LI f kf W pa pb o i j) (l1:i+1 < pa.size) (l2:j < pb.size) (l3:n<=i+j) (q:∀ k,j<=k->k < pb.size->kf (at' pa i)<=kf (at' pb k)):Stp M A E s κ (GoodR f kf W) (Hz (LH f kf W pa pb) n) (Hz (LH f kf W pa pb) n) (aj6 (pa.map f) (pb.map f) o i j g c d):=by
 intro st Q hs hd hn;have l1':=Nat.lt_of_succ_lt l1;have L4:=L.a1O l1' q;refine wpS_bind (bD l1' ?_);refine aK (fun e=>wpS_pure (hd _ bB.rfl' _ _ (L4.adJ (a71 e) B.hl))) fun e=>?_;have G4:LH f kf W pa pb n _ _ _:=⟨L4,qy l1 (bnz e),l2,by omega⟩;exact aK (fun _=>wpS_pure ((hn _ bB.rfl' _).1 G4)) fun _=>wpS_pure ((hn _ bB.rfl' _).2 G4)
theorem a9F {o:Array Keyed} {i j g c d n:Nat} (L:LI f kf W pa pb o i j) (l1:i+1 < pa.size) (l2:j < pb.size) (l3:n<=i+j) (q:∀ k,i<=k->k < pa.size->kf (at' pb j) < kf (at' pa k)):Stp M A E s κ (GoodR f kf W) (Hz (LH f kf W pa pb) n) (Hz (LH f kf W pa pb) n) (aj7 (pa.map f) (pb.map f) o i j g c d):=by
 intro st Q hs hd hn;have zb:(pb.map f).size=pb.size:=qj ..;have l1':=Nat.lt_of_succ_lt l1;have L2:=L.a4X l2 fun j j1 j2=>ni (q j j1 j2);refine wpS_bind (bD l2 ?_);refine aK (fun e=>wpS_pure (hd _ bB.rfl' _ _ (L2.a4Y (a71 e)))) fun e=>?_;have e':j+1 < pb.size:=qy l2 (bnz e);refine wpS_bind (bD l1' (wpS_bind (zE (base:=j+1) (n:=(pb.map f).size - (j+1)) (hint:=0) B.hL (B.ia i l1') B.ib (by rw [zb];omega) (by rw [zb];omega) (a0F B.ub (by rw [zb];omega)) hs fun k k1 k2 k3=>?_)));rw [zb] at k1 k3;have q3:=fun x (j1:j+1+k<=x) (j2:x < pb.size)=>adL.1 ((show j+1+(x - (j+1))=x by omega) ▸ k3 (x - (j+1)) (by omega) (by omega));refine aK (fun kp=>?_) fun kz=>?_
 ·have L3:=L2.av7 (k:=k) fun x y hi h1 j1 j2=>jo (ni (abK.1 (k2 x hi))) (B.ua _ y j1 j2);refine aK (fun e=>wpS_pure (hd _ bB.rfl' _ _ (L3.a4Y (a71 e)))) fun e=>?_;exact a9E B L3 l1 (by have:=bnz e;omega) (by omega) q3 st Q hs hd hn
 ·obtain rfl:k=0:=yh kz;exact a9E B L2 l1 e' (by omega) q3 st Q hs hd hn
theorem aj8 {o:Array Keyed} {i j g c d n:Nat} (L:LH f kf W pa pb n o i j):Stp M A E s κ (GoodR f kf W) (Hz (LH f kf W pa pb) n) (Hz (LH f kf W pa pb) n) (loT (pa.map f) (pb.map f) o i j g c d):=by
 obtain ⟨L,l1,l2,l3⟩:=L;intro st Q hs hd hn;have za:(pa.map f).size=pa.size:=qj ..;refine wpS_bind (wpS_modify (wpS_bind (bD l2 (wpS_bind (zE (base:=i) (n:=(pa.map f).size - i) (hint:=0) B.hL (B.ib _ l2) B.ia (by rw [za];omega) (by rw [za];omega) (a0F B.ua (by rw [za];omega)) (by exact hs) fun k k1 k2 k3=>?_)))));rw [za] at k1 k3;have qa:=fun x (j1:i+k<=x) (j2:x < pa.size)=>aj3.1 ((show i+(x - i)=x by omega) ▸ k3 (x - i) (by omega) (by omega));have S:bB st (setG st g):=bB.rfl';refine aK (fun kp=>?_) fun kz=>?_
 ·have LA:=L.ao7 (k:=k) fun x y hi h1 j1 j2=>jo (a9D.1 (k2 x hi)) (B.ub j y j1 j2);refine aK (fun e=>wpS_pure (hd _ S _ _ (LA.adJ (a71 e) B.hl))) fun e=>?_;refine aK (fun e=>wpS_pure (hd _ S _ _ (LA.a4Z (a71 e)))) fun e2=>?_;exact a9F B LA (by have:=bnz e;have:=bnz e2;omega) l2 (by omega) qa _ Q hs (fun st' S'=>hd st' (S.trans S')) fun st' S'=>hn st' (S.trans S')
 ·obtain rfl:k=0:=yh kz;exact a9F B L l1 l2 l3 qa _ Q hs (fun st' S'=>hd st' (S.trans S')) fun st' S'=>hn st' (S.trans S')
theorem av9 {o:Array Keyed} {i j g c d n:Nat} (L:LH f kf W pa pb n o i j):Stp M A E s κ (GoodR f kf W) (Hz (LH f kf W pa pb) (n+1)) (Hz (LH f kf W pa pb) (n+1)) (loS (pa.map f) (pb.map f) g o i j c d):=by
 obtain ⟨L,l1,l2,l3⟩:=L;intro st Q hs hd hn;have l1':=Nat.lt_of_succ_lt l1;refine wpS_bind (bD l2 (wpS_bind (bD l1' (wpS_bind (B.hL _ _ _ _ (B.ib _ l2) (B.ia _ l1') hs ?_)))));refine aK (fun hw=>?_) fun hw=>?_
 ·have L2:=L.a4X l2 fun x j1 j2=>jo (ni (of_decide_eq_true hw)) (B.ua i x j1 j2);refine wpS_bind (bD l2 (aK (fun e=>wpS_pure (hd _ bB.rfl' _ _ (L2.a4Y (a71 e)))) fun e=>?_));have G2:LH f kf W pa pb (n+1) _ _ _:=⟨L2,l1,qy l2 (bnz e),Nat.succ_le_succ l3⟩;exact aK (fun _=>wpS_pure ((hn _ bB.rfl' _).1 G2)) fun _=>wpS_pure ((hn _ bB.rfl' _).2 G2)
 ·have L2:=L.a1O l1' fun x j1 j2=>jo (Int.not_lt.mp fun z=>hw (decide_eq_true z)) (B.ub j x j1 j2);refine wpS_bind (bD l1' (aK (fun e=>wpS_pure (hd _ bB.rfl' _ _ (L2.adJ (a71 e) B.hl))) fun e=>?_));have G2:LH f kf W pa pb (n+1) _ _ _:=⟨L2,qy l1 (bnz e),l2,by omega⟩;exact aK (fun _=>wpS_pure ((hn _ bB.rfl' _).1 G2)) fun _=>wpS_pure ((hn _ bB.rfl' _).2 G2)
theorem aAT {st:SortSt} (hs:kindOf st=κ) (h:∀ r st',bB st st'->GoodR f kf (pa.toList++pb.toList) r->Q r st'):wpS M A E s (xA (pa.map f) (pb.map f)) Q st:=by
 have L0:LI f kf (pa.toList++pb.toList) pa pb #[f (at' pb 0)] 0 1:=by
  have:LI f kf (pa.toList++pb.toList) pa pb #[] 0 0:=⟨[],rfl,adK B.ua,adK B.ub,List.Perm.refl _⟩;exact this.a4X B.nb fun j _ j2=>jo (ni B.hf) (B.ua 0 j (je _) j2)
 rw [aAS];refine wpS_bind (wpS_lift (wpAny_rule ⟨rfl,wpS_bind (bD B.nb ?_)⟩));refine aK (fun e1=>wpS_pure (h _ _ bB.rfl' (L0.a4Y (a71 e1)))) fun e1=>?_;refine aK (fun e2=>wpS_pure (h _ _ bB.rfl' (L0.adJ (a71 e2) B.hl))) fun e2=>?_;refine aj5 (H:=LH f kf (pa.toList++pb.toList) pa pb) (by rw [qj];exact Nat.add_pos_left B.na _) (fun n i j o h=>⟨h.1,h.2.1,h.2.2.1,Nat.le_of_succ_le h.2.2.2⟩) (fun o i j h=>?_) (fun x g i j o c d k=>av9 B k) (fun x i j o g c d k=>?_) hs ⟨L0,qy B.na (bnz e2),qy B.nb (bnz e1),au _⟩ h
 ·obtain ⟨_,h1,h2,h3⟩:=h;rw [qj,qj] at h3;omega
 ·exact fun st Q hs hd hn=>aK (fun _=>aj8 B k st Q hs hd hn) fun _=>aj8 B k st Q hs hd hn
end
end
end TS
namespace TS
open PySem PyProof.Rows
section
variable {kf:Nat->Int} {W:List Nat} {f:Nat->Keyed} {p:Array Nat}
theorem Out.rev {l:List Nat} (h:Out (fun x=>- kf x) W l):Out kf W l.reverse:=⟨a0n.mpr (h.1.imp fun z=>by have:- kf _<=- kf _:=z;show kf _<=kf _;omega),(List.reverse_perm l).trans h.2⟩
theorem zF (n:Nat):((p.map f).extract 0 n).toList=(p.toList.take n).map f:=by simp [a0k]
theorem adM {n:Nat} (h:n < p.size):(p.toList.take (n+1)).reverse=[at' p n]++(p.toList.take n).reverse:=by
 rw [List.take_succ_eq_append_getElem (by simpa using h),List.reverse_append];simp [at',qb,h]
theorem aj9 {i n:Nat} (h:i<=n):(p.toList.take n).reverse=((p.toList.take n).drop i).reverse++(p.toList.take i).reverse:=by
 rw [← List.reverse_append];congr 1;have:=(uf i (p.toList.take n)).symm
 rwa [List.take_take,qu h] at this
theorem avA {i n:Nat}:((p.map f).extract i n).reverse.toList=(((p.toList.take n).drop i).reverse).map f:=by
 simp [a0k,a0j,List.drop_take]
theorem n8 {n x:Nat} (h:x∈(p.toList.take n).reverse):∃ j,j < n/\j < p.size/\x=at' p j:=by
 obtain ⟨j,hj,e⟩:=zp.mp (a0m.mp h)
 have hj':j < n/\j < p.size:=by
  have:j < min n p.size:=by simpa using hj
  omega
 refine ⟨j,hj'.1,hj'.2,?_⟩;rw [← e];simp [at',qb,hj'.2]
theorem a5A {i n x:Nat} (h:x∈((p.toList.take n).drop i).reverse):∃ j,i<=j/\j < n/\j < p.size/\x=at' p j:=by
 obtain ⟨j,hj,e⟩:=zp.mp (a0m.mp h)
 have hj':i+j < n/\i+j < p.size:=by
  have:j < min n p.size - i:=by simpa using hj
  omega
 refine ⟨i+j,by omega,hj'.1,hj'.2,?_⟩;rw [← e];simp [at',qb,hj'.2]
end
variable {na nb:Nat}
section
variable {M:Model} {A:Around} {E:Value->Shared->Prop} {s:Shared} {f:Nat->Keyed} {kf:Nat->Int} {N:Nat} {κ:SortKind} {pa pb:Array Nat} {W:List Nat}
def HI (f:Nat->Keyed) (kf:Nat->Int) (W:List Nat) (pa pb:Array Nat) (out:Array Keyed) (na nb:Nat):Prop:=∃ o:List Nat,out.toList=o.map f/\MI (fun x=>- kf x) W o (pa.toList.take na).reverse (pb.toList.take nb).reverse
theorem HI.a1O {out:Array Keyed} (h:HI f kf W pa pb out (na+1) nb) (ha:na < pa.size) (q:∀ j,j < nb->j < pb.size->kf (at' pb j)<=kf (at' pa na)):HI f kf W pa pb (out.push (f (at' pa na))) na nb:=by
 obtain ⟨o,e,m⟩:=h;rw [adM ha] at m;refine ⟨o++[at' pa na],by simp [e],m.a fun x hx y hy=>?_⟩;obtain ⟨j,j1,j2,rfl⟩:=n8 hy;rw [jt.mp hx];have:=q j j1 j2;omega
theorem HI.swap {out:Array Keyed} {na nb:Nat} (h:HI f kf W pa pb out na nb):HI f kf W pb pa out nb na:=let ⟨o,e,m⟩:=h;⟨o,e,m.swap⟩
theorem HI.a4X {out:Array Keyed} (h:HI f kf W pa pb out na (nb+1)) (hb:nb < pb.size) (q:∀ j,j < na->j < pa.size->kf (at' pa j)<=kf (at' pb nb)):HI f kf W pa pb (out.push (f (at' pb nb))) na nb:=(h.swap.a1O hb q).swap
theorem HI.ao7 {out:Array Keyed} {i:Nat} (h:HI f kf W pa pb out na nb) (hi:i<=na) (q:∀ k j,i<=k->k < na->k < pa.size->j < nb->j < pb.size->kf (at' pb j)<=kf (at' pa k)):HI f kf W pa pb (out++((pa.map f).extract i na).reverse) i nb:=by
 obtain ⟨o,e,m⟩:=h;rw [aj9 hi] at m;refine ⟨o++((pa.toList.take na).drop i).reverse,by rw [jd,avA,e,iy],m.a fun x hx y hy=>?_⟩;obtain ⟨j,j1,j2,rfl⟩:=n8 hy;obtain ⟨k,k1,k2,k3,rfl⟩:=a5A hx;have:=q k j k1 k2 k3 j1 j2;omega
theorem HI.av7 {out:Array Keyed} {i:Nat} (h:HI f kf W pa pb out na nb) (hi:i<=nb) (q:∀ k j,i<=k->k < nb->k < pb.size->j < na->j < pa.size->kf (at' pa j)<=kf (at' pb k)):HI f kf W pa pb (out++((pb.map f).extract i nb).reverse) na i:=(h.swap.ao7 hi q).swap
theorem HI.a4Z {out:Array Keyed} (h:HI f kf W pa pb out na nb) (e:na=0):GoodR f kf W ((pa.map f).extract 0 na++(pb.map f).extract 0 nb++out.reverse):=by
 obtain ⟨o,eo,m⟩:=h;subst e;exact ⟨_,by rw [jd,jd,zF,zF,a0v,eo];simp,m.aj2.rev⟩
theorem HI.a4Y {out:Array Keyed} (h:HI f kf W pa pb out na nb) (e:nb=0):GoodR f kf W ((pa.map f).extract 0 na++(pb.map f).extract 0 nb++out.reverse):=by
 obtain ⟨o,eo,m⟩:=h;subst e;exact ⟨_,by rw [jd,jd,zF,zF,a0v,eo];simp,m.aj1.rev⟩
theorem HI.a72 {out:Array Keyed} (h:HI f kf W pa pb out na nb) (e:nb=1) (z:1<=pb.size) (hf:∀ j,j < pa.size->kf (at' pb 0)<=kf (at' pa j)):GoodR f kf W ((pb.map f).extract 0 nb++(pa.map f).extract 0 na++out.reverse):=by
 obtain ⟨o,eo,m⟩:=h;subst e;have e2:(pb.toList.take 1).reverse=[at' pb 0]:=by rw [adM (by omega)];rfl
 have e3:pb.toList.take 1=[at' pb 0]:=by rw [← List.reverse_reverse (pb.toList.take 1),e2];rfl
 rw [e2] at m;refine ⟨_,by rw [jd,jd,zF,zF,e3,a0v,eo];simp,(m.swap.last fun y hy=>?_).rev⟩;obtain ⟨j,j1,j2,rfl⟩:=n8 hy;have:=hf j j2;omega
def HG (f:Nat->Keyed) (kf:Nat->Int) (W:List Nat) (pa pb:Array Nat) (out:Array Keyed) (na nb n:Nat):Prop:=HI f kf W pa pb out na nb/\1<=na/\na<=pa.size/\2<=nb/\nb<=pb.size/\na+nb+n<=pa.size+pb.size
noncomputable abbrev Kz:Type:=RA×Nat×Nat×Array Keyed×Nat×Nat×Nat
noncomputable def hiF (a b o:Array Keyed) (i j:Nat):Array Keyed:=a.extract 0 i++b.extract 0 j++o.reverse
noncomputable def hiG (a b o:Array Keyed) (i j:Nat):Array Keyed:=b.extract 0 j++a.extract 0 i++o.reverse
noncomputable def hiS (a b:Array Keyed) (g i j:Nat) (o:Array Keyed) (c d:Nat):StateT SortSt Sem (ForInStep (RA×Nat×Nat×Array Keyed×Nat×Nat)):=do
 let y ← elem' b (j - 1)
 let x ← elem' a (i - 1)
 let w ← lt' y x
 match w with
 | some w =>
  if w=true then
   let x ← elem' a (i - 1)
   if (i - 1 == 0)=true then pure (.done (some (hiF a b (o.push x) (i - 1) j),i - 1,j,o.push x,c+1,0))
   else if c+1≥g then pure (.done (none,i - 1,j,o.push x,c+1,0)) else pure (.yield (none,i - 1,j,o.push x,c+1,0))
  else
   let y ← elem' b (j - 1)
   if (j - 1 == 1)=true then pure (.done (some (hiG a b (o.push y) i (j - 1)),i,j - 1,o.push y,0,d+1))
   else if d+1≥g then pure (.done (none,i,j - 1,o.push y,0,d+1)) else pure (.yield (none,i,j - 1,o.push y,0,d+1))
 | x=>pure (.done (some (hiF a b o i j),i,j,o,c,d))
noncomputable def ajA (a b o:Array Keyed) (i j g c d:Nat):StateT SortSt Sem (ForInStep Kz):=do
 let x ← elem' a (i - 1)
 if (i - 1 == 0)=true then pure (.done (some (hiF a b (o.push x) (i - 1) j),i - 1,j,o.push x,g,c,d))
 else if (decide (c < 7)&&decide (d < 7))=true then pure (.done (none,i - 1,j,o.push x,g,c,d)) else pure (.yield (none,i - 1,j,o.push x,g,c,d))
noncomputable def ajB (a b o:Array Keyed) (i j g c d:Nat):StateT SortSt Sem (ForInStep Kz):=do
 let y ← elem' b (j - 1)
 if (j - 1 == 1)=true then pure (.done (some (hiG a b (o.push y) i (j - 1)),i,j - 1,o.push y,g,c,d))
 else do
  let x ← elem' a (i - 1)
  let r ← n6 true x b 0 (j - 1) (j - 1 - 1)
  match r with
  | some k=>if j - 1 - k > 0 then (if (k == 1)=true then pure (.done (some (hiG a b (o.push y++(b.extract k (j - 1)).reverse) i k),i,k,o.push y++(b.extract k (j - 1)).reverse,g,c,j - 1 - k)) else if (k == 0)=true then pure (.done (some (hiF a b (o.push y++(b.extract k (j - 1)).reverse) i k),i,k,o.push y++(b.extract k (j - 1)).reverse,g,c,j - 1 - k)) else ajA a b (o.push y++(b.extract k (j - 1)).reverse) i k g c (j - 1 - k)) else ajA a b (o.push y) i (j - 1) g c (j - 1 - k)
  | x=>pure (.done (some (hiF a b (o.push y) i (j - 1)),i,j - 1,o.push y,g,c,d))
noncomputable def hiT (a b:Array Keyed) (i j:Nat) (o:Array Keyed) (g c d:Nat):StateT SortSt Sem (ForInStep Kz):=do
 modify fun s=>setG s g
 let y ← elem' b (j - 1)
 let r ← n6 false y a 0 i (i - 1)
 match r with
 | some k=>if i - k > 0 then (if (k == 0)=true then pure (.done (some (hiF a b (o++(a.extract k i).reverse) k j),k,j,o++(a.extract k i).reverse,g,i - k,d)) else ajB a b (o++(a.extract k i).reverse) k j g (i - k) d) else ajB a b o i j g (i - k) d
 | x=>pure (.done (some (hiF a b o i j),i,j,o,g,c,d))
theorem aAU (a b:Array Keyed):xB a b=(do
 rule "list.sort.merge-hi"
 let x ← elem' a (a.size - 1)
 if (a.size - 1 == 0)=true then pure (hiF a b #[x] (a.size - 1) b.size)
 else if (b.size == 1)=true then pure (hiG a b #[x] (a.size - 1) b.size)
 else mgA (a.size+b.size) (hiS a b) (fun i j o g c d=>if g > 1 then hiT a b i j o (g - 1) c d else hiT a b i j o g c d) (a.size - 1) b.size #[x]):=rfl
section
variable (B:Bth M A E s f kf N κ pa pb)
abbrev HH (f:Nat->Keyed) (kf:Nat->Int) (W:List Nat) (pa pb:Array Nat) (n i j:Nat) (o:Array Keyed):Prop:=HG f kf W pa pb o i j n
include B
theorem Bth.hf0 (j:Nat) (hj:j < pa.size):kf (at' pb 0)<=kf (at' pa j):=jo (ni B.hf) (B.ua 0 j (je _) hj)
theorem a9G {o:Array Keyed} {i j g c d n:Nat} (L:HI f kf W pa pb o (i+1) j) (l1:i < pa.size) (l2:2<=j) (l2':j<=pb.size) (l3:i+j+n<=pa.size+pb.size) (q:∀ x,x < j->x < pb.size->kf (at' pb x)<=kf (at' pa i)):Stp M A E s κ (GoodR f kf W) (Hz (HH f kf W pa pb) n) (Hz (HH f kf W pa pb) n) (ajA (pa.map f) (pb.map f) o (i+1) j g c d):=by
 intro st Q hs hd hn;have L4:=L.a1O l1 q;refine wpS_bind (bD (i:=i) l1 ?_);refine aK (fun e=>wpS_pure (hd _ bB.rfl' _ _ (L4.a4Z (eq_of_beq e)))) fun e=>?_;have G4:HH f kf W pa pb n _ _ _:=⟨L4,a0d (bne e),jx l1,l2,l2',l3⟩;exact aK (fun _=>wpS_pure ((hn _ bB.rfl' _).1 G4)) fun _=>wpS_pure ((hn _ bB.rfl' _).2 G4)
theorem a9H {o:Array Keyed} {i j g c d n:Nat} (L:HI f kf W pa pb o (i+1) (j+1)) (l1:i < pa.size) (l2:1<=j) (l2':j < pb.size) (l3:i+j+n<=pa.size+pb.size) (q:∀ x,x < i+1->x < pa.size->kf (at' pa x)<=kf (at' pb j)):Stp M A E s κ (GoodR f kf W) (Hz (HH f kf W pa pb) n) (Hz (HH f kf W pa pb) n) (ajB (pa.map f) (pb.map f) o (i+1) (j+1) g c d):=by
 intro st Q hs hd hn;have L2:=L.a4X l2' q;refine wpS_bind (bD (i:=j) l2' ?_);refine aK (fun e=>wpS_pure (hd _ bB.rfl' _ _ (L2.a72 (eq_of_beq e) B.nb B.hf0))) fun e=>?_;have e':j≠1:=bne e;have l4:=jx l2';refine wpS_bind (bD (i:=i) l1 (wpS_bind (zE (base:=0) (n:=j) (hint:=j - 1) B.hL (B.ia i l1) B.ib (by rwa [jk]) (zq l2 yj) (a0F B.ub (by rwa [jk])) hs fun k k1 k2 k3=>?_)));have q3:=fun x (j1:x < k) (j2:x < pb.size)=>ni (abK.1 (jk x ▸ k2 x j1));refine aK (fun kp=>?_) fun kz=>?_
 ·have L3:=L2.av7 (i:=k) k1 fun x y hi h1 h2 j1 j2=>jo (B.ua y i (a0f j1) l1) (adL.1 (jk x ▸ k3 x hi h1));refine aK (fun e=>wpS_pure (hd _ bB.rfl' _ _ (L3.a72 (eq_of_beq e) B.nb B.hf0))) fun e=>?_;refine aK (fun e=>wpS_pure (hd _ bB.rfl' _ _ (L3.a4Y (eq_of_beq e)))) fun e2=>?_;exact a9G B L3 l1 (by have:=bne e;have:=bne e2;omega) (ju k1 l4) (by omega) q3 st Q hs hd hn
 ·obtain rfl:k=j:=Nat.le_antisymm k1 (Nat.sub_eq_zero_iff_le.mp (yh kz));exact a9G B L2 l1 (by omega) l4 l3 q3 st Q hs hd hn
theorem ajC {o:Array Keyed} {i j g c d n:Nat} (L:HH f kf W pa pb n i j o):Stp M A E s κ (GoodR f kf W) (Hz (HH f kf W pa pb) n) (Hz (HH f kf W pa pb) n) (hiT (pa.map f) (pb.map f) i j o g c d):=by
 obtain ⟨L,l1,l1',l2,l2',l3⟩:=L;intro st Q hs hd hn;obtain _ | j:=j
 ·cases l2
 have l2:=Nat.le_of_succ_le_succ l2;refine wpS_bind (wpS_modify (wpS_bind (bD (i:=j) l2' (wpS_bind (zE (base:=0) (n:=i) (hint:=i - 1) B.hL (B.ib _ l2') B.ia (by rwa [jk]) (zq l1 yj) (a0F B.ua (by rwa [jk])) (by exact hs) fun k k1 k2 k3=>?_)))));have qa:=fun x (j1:x < k) (j2:x < pa.size)=>a9D.1 (jk x ▸ k2 x j1);have S:bB st (setG st g):=bB.rfl';refine aK (fun kp=>?_) fun kz=>?_
 ·have LA:=L.ao7 (i:=k) k1 fun x y hi h1 h2 j1 j2=>jo (B.ub y j (a0f j1) l2') (ni (aj3.1 (jk x ▸ k3 x hi h1)));refine aK (fun e=>wpS_pure (hd _ S _ _ (LA.a4Z (eq_of_beq e)))) fun e=>?_;obtain _ | k:=k
  ·exact absurd rfl (bne e)
  exact a9H B LA (cu k1 l1') l2 l2' (by omega) qa _ Q hs (fun st' S'=>hd st' (S.trans S')) fun st' S'=>hn st' (S.trans S')
 ·obtain rfl:k=i:=Nat.le_antisymm k1 (Nat.sub_eq_zero_iff_le.mp (yh kz));obtain _ | k:=k
  ·cases l1
  exact a9H B L l1' l2 l2' (by omega) qa _ Q hs (fun st' S'=>hd st' (S.trans S')) fun st' S'=>hn st' (S.trans S')
theorem avB {o:Array Keyed} {i j g c d n:Nat} (L:HH f kf W pa pb n i j o):Stp M A E s κ (GoodR f kf W) (Hz (HH f kf W pa pb) (n+1)) (Hz (HH f kf W pa pb) (n+1)) (hiS (pa.map f) (pb.map f) g i j o c d):=by
 obtain ⟨L,l1,l1',l2,l2',l3⟩:=L;intro st Q hs hd hn;obtain _ | j:=j
 ·cases l2
 obtain _ | i:=i
 ·cases l1
 refine wpS_bind (bD (i:=j) l2' (wpS_bind (bD (i:=i) l1' (wpS_bind (B.hL _ _ _ _ (B.ib _ l2') (B.ia _ l1') hs ?_)))));refine aK (fun hw=>?_) fun hw=>?_
 ·have L2:=L.a1O l1' fun x j1 j2=>jo (B.ub x j (a0f j1) l2') (ni (of_decide_eq_true hw));refine wpS_bind (bD (i:=i) l1' (aK (fun e=>wpS_pure (hd _ bB.rfl' _ _ (L2.a4Z (eq_of_beq e)))) fun e=>?_));have G2:HH f kf W pa pb (n+1) _ _ _:=⟨L2,a0d (bne e),jx l1',l2,l2',by omega⟩;exact aK (fun _=>wpS_pure ((hn _ bB.rfl' _).1 G2)) fun _=>wpS_pure ((hn _ bB.rfl' _).2 G2)
 ·have L2:=L.a4X l2' fun x j1 j2=>jo (B.ua x i (a0f j1) l1') (Int.not_lt.mp fun z=>hw (decide_eq_true z));refine wpS_bind (bD (i:=j) l2' (aK (fun e=>wpS_pure (hd _ bB.rfl' _ _ (L2.a72 (eq_of_beq e) B.nb B.hf0))) fun e=>?_));have G2:HH f kf W pa pb (n+1) _ _ _:=⟨L2,l1,l1',qy (Nat.le_of_succ_le_succ l2) (bne e).symm,jx l2',by omega⟩;exact aK (fun _=>wpS_pure ((hn _ bB.rfl' _).1 G2)) fun _=>wpS_pure ((hn _ bB.rfl' _).2 G2)
theorem aAV {st:SortSt} (hs:kindOf st=κ) {Q:Array Keyed->SortSt->Prop} (h:∀ r st',bB st st'->GoodR f kf (pa.toList++pb.toList) r->Q r st'):wpS M A E s (xB (pa.map f) (pb.map f)) Q st:=by
 have na:=B.na
 have L0:HI f kf (pa.toList++pb.toList) pa pb #[f (at' pa (pa.size - 1))] (pa.size - 1) pb.size:=by
  have ea:pa.size - 1+1=pa.toList.length:=Nat.sub_add_cancel na
  have:HI f kf (pa.toList++pb.toList) pa pb #[] (pa.size - 1+1) pb.size:=by
   rw [HI,ea,uw,show pb.size=pb.toList.length from rfl,uw];exact ⟨[],rfl,a0n.mpr ((adK B.ua).imp fun z=>Int.neg_le_neg z),a0n.mpr ((adK B.ub).imp fun z=>Int.neg_le_neg z),(List.reverse_perm _).append (List.reverse_perm _)⟩
  exact this.a1O (zq na yj) fun j _ j2=>B.hl j j2
 rw [aAU,qj,qj];refine wpS_bind (wpS_lift (wpAny_rule ⟨rfl,wpS_bind (bD (i:=pa.size - 1) (zq na yj) ?_)⟩));refine aK (fun e1=>wpS_pure (h _ _ bB.rfl' (L0.a4Z (eq_of_beq e1)))) fun e1=>?_;refine aK (fun e2=>wpS_pure (h _ _ bB.rfl' (L0.a72 (eq_of_beq e2) B.nb B.hf0))) fun e2=>?_;refine aj5 (H:=HH f kf (pa.toList++pb.toList) pa pb) (Nat.add_pos_left na _) (fun n i j o h=>⟨h.1,h.2.1,h.2.2.1,h.2.2.2.1,h.2.2.2.2.1,Nat.le_of_succ_le h.2.2.2.2.2⟩) (fun i j o h=>?_) (fun x g i j o c d k=>avB B k) (fun x i j o g c d k=>?_) hs ⟨L0,a0d (bne e1),Nat.sub_le _ _,qy B.nb (bne e2).symm,au _,by omega⟩ h
 ·obtain ⟨_,h1,_,h2,_,h3⟩:=h;omega
 ·exact fun st Q hs hd hn=>aK (fun _=>ajC B k st Q hs hd hn) fun _=>ajC B k st Q hs hd hn
end
end
end TS
namespace TS
open PySem PyProof.Rows
open PySem.W (kas_swaps_map)
def f9 (kf:Nat->Int) (p:Array Nat) (lo hi:Nat):Prop:=∀ i j,lo<=i->i<=j->j < hi->kf (at' p i)<=kf (at' p j)
def a9I (kf:Nat->Int) (p:Array Nat) (lo hi:Nat):Prop:=∀ i j,lo<=i->i<=j->j < hi->kf (at' p j)<=kf (at' p i)
def Off (p q:Array Nat) (lo:Nat):Prop:=∀ i,i < lo->at' q i=at' p i
variable {lo:Nat}
section
variable {kf:Nat->Int} {N:Nat} {p:Array Nat}
theorem abL {i j k:Nat} (hj:j<=p.size):at' (mirror p i j ((j - i) / 2)) k=if i<=k/\k < j then at' p (i+j - 1 - k) else at' p k:=by
 have e:=getElem?_mirror_all (xs:=p) (i:=i) hj k;split at e
 ·rw [if_pos ‹_›];exact L2.eY e
 ·rw [if_neg ‹_›];exact L2.eY e
theorem abM {src d k:Nat} (hs:src < p.size) (hd:d<=src):at' (bubble p src d) k=if k=src - d then at' p src else if src - d < k/\k<=src then at' p (k - 1) else at' p k:=by
 have e:=getElem?_bubble (xs:=p) hs d hd k;by_cases h1:k=src - d
 ·rw [if_pos h1] at e ⊢;exact L2.eY e
 ·rw [if_neg h1] at e ⊢;by_cases h2:src - d < k/\k<=src
  ·rw [if_pos h2] at e ⊢;exact L2.eY e
  ·rw [if_neg h2] at e ⊢;exact L2.eY e
theorem avC {i j d:Nat} (h:L2.Pm N p):L2.Pm N (mirror p i j d):=⟨by rw [mirror_size];exact h.size,((mirror_perm p i j d).toList).trans h.perm⟩
theorem avD {i d:Nat} (h:L2.Pm N p):L2.Pm N (bubble p i d):=⟨by rw [bubble_size];exact h.size,((bubble_perm p i d).toList).trans h.perm⟩
theorem f9.more {n:Nat} (u:f9 kf p lo (lo+n)) (hn:1<=n) (h:¬ kf (at' p (lo+n)) < kf (at' p (lo+n - 1))):f9 kf p lo (lo+(n+1)):=fun i j h1 h2 h3=>by
 by_cases c:j < lo+n
 ·exact u i j h1 h2 c
 ·obtain rfl:j=lo+n:=by omega
  by_cases d:i=lo+n
  ·subst d;exact mq _
  ·exact jo (u i (lo+n - 1) h1 (by omega) (by omega)) (by omega)
theorem a9I.more {n:Nat} (u:a9I kf p lo (lo+n)) (hn:1<=n) (h:kf (at' p (lo+n)) < kf (at' p (lo+n - 1))):a9I kf p lo (lo+(n+1)):=fun i j h1 h2 h3=>by
 by_cases c:j < lo+n
 ·exact u i j h1 h2 c
 ·obtain rfl:j=lo+n:=by omega
  by_cases d:i=lo+n
  ·subst d;exact mq _
  ·exact jo (ni h) (u i (lo+n - 1) h1 (by omega) (by omega))
theorem a9I.rev {n:Nat} (u:a9I kf p lo (lo+n)) (hp:lo+n<=p.size):f9 kf (mirror p lo (lo+n) ((lo+n - lo) / 2)) lo (lo+n):=fun i j h1 h2 h3=>by
 rw [abL hp,abL hp,if_pos ⟨h1,by omega⟩,if_pos ⟨by omega,h3⟩];exact u _ _ (by omega) (by omega) (by omega)
end
variable {Q:Unit->SortSt->Prop}
section
variable {M:Model} {A:Around} {E:Value->Shared->Prop} {s:Shared} {f:Nat->Keyed} {kf:Nat->Int} {N:Nat} {κ:SortKind} {p:Array Nat}
structure AS (f:Nat->Keyed) (κ:SortKind) (pd:Array (Nat×Nat×Nat)) (p:Array Nat) (st:SortSt):Prop where
 kind:kindOf st=κ
 arr:arrOf st=p.map f
 pend:pendingOf st=pd
 fail:failedOf st=none
variable {pd:Array (Nat×Nat×Nat)}
theorem ltA (hL:a3P M A E s f kf N κ) (P:L2.Pm N p) {st:SortSt} (S:AS f κ pd p st) {i j:Nat} (hi:i < N) (hj:j < N) {Q:Option Bool->SortSt->Prop} (h:Q (some (decide (kf (at' p i) < kf (at' p j)))) st):wpS M A E s (ltAt' i j) Q st:=by
 rw [ltAt'_eq];refine wpS_bind (wpS_get ?_);rw [S.arr];have z:=P.size;exact wpS_bind (bD (by omega) (wpS_bind (bD (by omega) (hL _ _ _ _ (P.lt hi) (P.lt hj) S.kind h))))
theorem abN {st:SortSt} (S:AS f κ pd p st) {i j:Nat} (h:∀ st',AS f κ pd (mirror p i j ((j - i) / 2)) st'->Q () st'):wpS M A E s (reverseSlice' i j) Q st:=by
 rw [reverseSlice'_eq];refine wpS_modify (h _ ⟨S.kind,?_,S.pend,S.fail⟩);show mirror (arrOf st) i j ((j - i) / 2)=_;rw [S.arr];exact kas_swaps_map f (fun k=>i+k) (fun k=>j - 1 - k) _ p
theorem aF5 {st:SortSt} (S:AS f κ pd p st) {k l:Nat} (h:∀ st',AS f κ pd (bubble p k (k - l)) st'->Q () st'):wpS M A E s (moveDown' k l) Q st:=by
 rw [moveDown'_eq];refine wpS_modify (h _ ⟨S.kind,?_,S.pend,S.fail⟩);show bubble (arrOf st) k (k - l)=_;rw [S.arr];exact kas_swaps_map f (fun i=>k - i) (fun i=>k - i - 1) _ p
theorem ajD (hL:a3P M A E s f kf N κ) (hd:∀ i j,i < N->j < N->kf i=kf j->i=j) (P:L2.Pm N p) {st:SortSt} (S:AS f κ pd p st) {nr:Nat} (h1:1<=nr) (hn:lo+nr=N) {Q:Option Nat->SortSt->Prop}
  (h:∀ m q st',AS f κ pd q st'->L2.Pm N q->Off p q lo->1<=m->m<=nr->f9 kf q lo (lo+m)->Q (some m) st'):wpS M A E s (countRun' lo nr) Q st:=by
 have one:∀ (p:Array Nat) (l:Nat),f9 kf p l (l+1):=fun p l i j a b c=>by
  obtain rfl:i=j:=by omega
  exact mq _
 rw [countRun'_eq]
 refine wpS_bind (wpS_mono (wpS_forRange (I:=fun x c st'=>st'=st/\c=(none,x)/\f9 kf p lo (lo+x))
  (Q:=fun c st'=>st'=st/\∃ n,c=(none,n)/\1<=n/\n<=nr/\f9 kf p lo (lo+n)/\(n < nr->kf (at' p (lo+n)) < kf (at' p (lo+n - 1)))) ?step ?fin ⟨rfl,rfl,one _ _⟩) ?post)
 case fin =>
  rintro c st' ⟨rfl,rfl,u⟩;rw [show max 1 nr=nr by omega] at u ⊢;exact ⟨rfl,nr,rfl,h1,au _,u,fun z=>absurd z (jq _)⟩
 case step =>
  rintro x c st' x1 x2 ⟨rfl,rfl,u⟩;refine wpS_bind (ltA hL P S (i:=lo+x) (j:=lo+x - 1) (by omega) (by omega) ?_);refine aK (fun c=>wpS_pure ⟨rfl,x,rfl,x1,by omega,u,fun _=>of_decide_eq_true c⟩) fun c=>wpS_pure ⟨rfl,rfl,u.more x1 fun z=>c (decide_eq_true z)⟩
 case post =>
  rintro c st' ⟨rfl,n,rfl,n1,n2,u,hs⟩;refine aK (fun _=>wpS_pure (h n p _ S P (fun _ _=>rfl) n1 n2 u)) fun c=>?_;have c':n≠nr:=fun z=>c (by simpa using z);have hs:=hs (by omega);refine aK (fun g=>?_) fun g=>?_
  ·have g:n > 1:=g;refine wpS_bind (ltA hL P S (i:=lo) (j:=lo+n - 1) (by omega) (by omega) ?_);refine aK (fun _=>wpS_pure (h n p _ S P (fun _ _=>rfl) n1 n2 u)) fun c=>?_;exfalso;refine c (decide_eq_true ?_);rcases Int.lt_or_eq_of_le (u lo (lo+n - 1) (by omega) (by omega) (by omega)) with z | z
   ·exact z
   ·have:=P.inj (show lo < N by omega) (show lo+n - 1 < N by omega) (hd _ _ (P.lt (by omega)) (P.lt (by omega)) z);omega
  ·obtain rfl:n=1:=by
    have:¬ (n > 1):=g;omega
   refine wpS_bind (wpS_lift (wpAny_rule ⟨rfl,?_⟩));have z:=P.size
   refine wpS_bind (wpS_mono (wpS_forRange (I:=fun x c st2=>st2=st'/\c=(none,x,0)/\a9I kf p lo (lo+x))
    (Q:=fun c st2=>st2=st'/\∃ n,c=(none,n,0)/\2<=n/\n<=nr/\a9I kf p lo (lo+n)) ?step1 ?avE ⟨rfl,rfl,?aAW⟩) ?ajE)
   case aAW =>
    refine a9I.more (n:=1) (fun i j a b c=>?_) (au _) hs;obtain rfl:i=j:=by omega
    exact mq _
   case avE =>
    rintro c st2 ⟨rfl,rfl,u⟩;rw [show max (1+1) nr=nr by omega] at u ⊢;exact ⟨rfl,nr,rfl,by omega,au _,u⟩
   case step1 =>
    rintro x c st2 x1 x2 ⟨rfl,rfl,u⟩;refine wpS_bind (ltA hL P S (i:=lo+x) (j:=lo+x - 1) (by omega) (by omega) ?_);refine aK (fun c=>?_) fun c=>?_
    ·exact aK (fun z=>absurd z (jq 0)) fun _=>wpS_pure ⟨rfl,rfl,u.more (by omega) (of_decide_eq_true c)⟩
    ·refine wpS_bind (ltA hL P S (i:=lo+x - 1) (j:=lo+x) (by omega) (by omega) ?_);refine aK (fun c=>wpS_pure ⟨rfl,x,rfl,x1,by omega,u⟩) fun c2=>?_;exfalso
     have e:kf (at' p (lo+x))=kf (at' p (lo+x - 1)):=by
      have a1:¬ kf (at' p (lo+x)) < kf (at' p (lo+x - 1)):=fun z=>c (decide_eq_true z);have a2:¬ kf (at' p (lo+x - 1)) < kf (at' p (lo+x)):=fun z=>c2 (decide_eq_true z);omega
     have:=P.inj (show lo+x < N by omega) (show lo+x - 1 < N by omega) (hd _ _ (P.lt (by omega)) (P.lt (by omega)) e);omega
   case ajE =>
    rintro c st2 ⟨rfl,n,rfl,n1,n2,u⟩;refine aK (fun z=>absurd z (jq 0)) fun _=>?_;refine wpS_bind (abN S fun st3 S3=>?_);have P3:=avC (i:=lo) (j:=lo+n) (d:=(lo+n - lo) / 2) P;have u3:=u.rev (by omega)
    have o3:Off p (mirror p lo (lo+n) ((lo+n - lo) / 2)) lo:=fun i hi=>by
     rw [abL (by omega),if_neg (by omega)]
    refine wpS_bind (wpS_mono (wpS_forRange (I:=fun x c st'=>st'=st3/\c=(none,x)/\f9 kf (mirror p lo (lo+n) ((lo+n - lo) / 2)) lo (lo+x))
     (Q:=fun c st'=>st'=st3/\∃ m,c=(none,m)/\1<=m/\m<=nr/\f9 kf (mirror p lo (lo+n) ((lo+n - lo) / 2)) lo (lo+m)) ?aAX ?fin2 ⟨rfl,rfl,u3⟩) ?post2)
    case fin2 =>
     rintro c st' ⟨rfl,rfl,u⟩;rw [show max n nr=nr by omega] at u ⊢;exact ⟨rfl,nr,rfl,h1,au _,u⟩
    case aAX =>
     rintro x c st' x1 x2 ⟨rfl,rfl,u⟩;have x1:n<=x:=x1;have x2:x < nr:=x2;refine wpS_bind (ltA hL P3 S3 (i:=lo+x) (j:=lo+x - 1) (by omega) (by omega) ?_);exact aK (fun c=>wpS_pure ⟨rfl,x,rfl,by omega,by omega,u⟩) fun c=>wpS_pure ⟨rfl,rfl,u.more (by omega) fun z=>c (decide_eq_true z)⟩
    case post2 =>
     rintro c st' ⟨rfl,m,rfl,m1,m2,u⟩;exact wpS_pure (h m _ _ S3 P3 o3 m1 m2 u)
end
end TS
namespace TS
open PySem PyProof.Rows
open PySem.W (kas_swaps_map)
section
variable {M:Model} {A:Around} {E:Value->Shared->Prop} {s:Shared} {f:Nat->Keyed} {kf:Nat->Int} {N:Nat} {κ:SortKind} {p:Array Nat} {pd:Array (Nat×Nat×Nat)}
theorem avF {lo k l:Nat} (hk:lo+k < p.size) (hl:l<=k) (u:f9 kf p lo (lo+k)) (h1:∀ i,i < l->kf (at' p (lo+i))<=kf (at' p (lo+k))) (h2:∀ i,l<=i->i < k->kf (at' p (lo+k)) < kf (at' p (lo+i))) :
  f9 kf (bubble p (lo+k) (lo+k - (lo+l))) lo (lo+(k+1)):=fun i j a b c=>by
 have H1:∀ x,lo<=x->x < lo+l->kf (at' p x)<=kf (at' p (lo+k)):=fun x x1 x2=>(show lo+(x - lo)=x by omega) ▸ h1 (x - lo) (by omega);have H2:∀ x,lo+l<=x->x < lo+k->kf (at' p (lo+k))<=kf (at' p x):=fun x x1 x2=>ni ((show lo+(x - lo)=x by omega) ▸ h2 (x - lo) (by omega) (by omega));rw [abM hk (by omega),abM hk (by omega),show lo+k - (lo+k - (lo+l))=lo+l by omega];by_cases i1:i=lo+l
 ·rw [if_pos i1];by_cases j1:j=lo+l
  ·rw [if_pos j1];exact mq _
  ·rw [if_neg j1,if_pos (by omega)];exact H2 _ (by omega) (by omega)
 ·rw [if_neg i1];by_cases i2:lo+l < i/\i<=lo+k
  ·rw [if_pos i2,if_neg (by omega),if_pos (by omega)];exact u _ _ (by omega) (by omega) (by omega)
  ·rw [if_neg i2];by_cases j1:j=lo+l
   ·rw [if_pos j1];exact H1 _ a (by omega)
   ·rw [if_neg j1];by_cases j2:lo+l < j/\j<=lo+k
    ·rw [if_pos j2];exact u _ _ a (by omega) (by omega)
    ·rw [if_neg j2];exact u _ _ a b (by omega)
theorem z8 (hL:a3P M A E s f kf N κ) (P:L2.Pm N p) {st:SortSt} (S:AS f κ pd p st) {lo n ok:Nat} (ho:1<=ok) (hon:ok<=n) (hn:lo+n<=N) (u:f9 kf p lo (lo+ok)) {Q:Bool->SortSt->Prop}
  (h:∀ q st',AS f κ pd q st'->L2.Pm N q->Off p q lo->f9 kf q lo (lo+n)->Q true st'):wpS M A E s (binarySort' lo n ok) Q st:=by
 rw [binarySort'_eq]
 refine wpS_bind (wpS_mono (wpS_forRange (I:=fun k c st'=>c=(none,())/\∃ q,AS f κ pd q st'/\L2.Pm N q/\Off p q lo/\f9 kf q lo (lo+k))
  (Q:=fun c st'=>c=(none,())/\∃ q,AS f κ pd q st'/\L2.Pm N q/\Off p q lo/\f9 kf q lo (lo+n)) ?step ?fin ⟨rfl,p,S,P,fun _ _=>rfl,by rw [show max ok 1=ok by omega];exact u⟩) ?post)
 case post =>
  rintro c st' ⟨rfl,q,S,P,o,u⟩;exact wpS_pure (h q _ S P o u)
 case fin =>
  rintro c st' ⟨rfl,q,S,P,o,u⟩;rw [show max (max ok 1) n=n by omega] at u;exact ⟨rfl,q,S,P,o,u⟩
 case step =>
  rintro k c st' k1 k2 ⟨rfl,q,S,P,o,u⟩;have z:=P.size
  refine wpS_bind (wpS_mono (wpS_forRange (I:=fun x c st2=>st2=st'/\∃ l r,c=(none,l,r)/\l<=r/\r<=k/\r+x<=k+l/\(∀ i,i < l->kf (at' q (lo+i))<=kf (at' q (lo+k)))/\(∀ i,r<=i->i < k->kf (at' q (lo+k)) < kf (at' q (lo+i))))
   (Q:=fun c st2=>st2=st'/\∃ l r,c=(none,l,r)/\l<=k/\(∀ i,i < l->kf (at' q (lo+i))<=kf (at' q (lo+k)))/\(∀ i,l<=i->i < k->kf (at' q (lo+k)) < kf (at' q (lo+i)))) ?istep ?ifin ⟨rfl,0,k,rfl,by omega,by omega,by omega,fun i hi=>by omega,fun i a b=>by omega⟩) ?ipost)
  case ifin =>
   rintro c st2 ⟨rfl,l,r,rfl,a0,a1,a2,a3,a4⟩;obtain rfl:l=r:=by omega
   exact ⟨rfl,l,l,rfl,a1,a3,a4⟩
  case istep =>
   rintro x c st2 _ hx ⟨rfl,l,r,rfl,a0,a1,a2,a3,a4⟩;refine aK (fun g=>?_) fun g=>?_
   ·have g:l≥r:=g;obtain rfl:l=r:=by omega
    exact wpS_pure ⟨rfl,l,l,rfl,a1,a3,a4⟩
   ·have g:¬ l≥r:=g;refine wpS_bind (ltA hL P S (i:=lo+k) (j:=lo+(l+r) / 2) (by omega) (by omega) ?_);refine aK (fun c=>wpS_pure ⟨rfl,l,(l+r) / 2,rfl,by omega,by omega,by omega,a3,fun i b1 b2=>?_⟩) fun c=>wpS_pure ⟨rfl,(l+r) / 2+1,r,rfl,by omega,by omega,by omega,fun i b1=>?_,a4⟩
    ·exact Int.lt_of_lt_of_le (of_decide_eq_true c) (u _ _ (by omega) (by omega) (by omega))
    ·have c:¬ kf (at' q (lo+k)) < kf (at' q (lo+(l+r) / 2)):=fun z=>c (decide_eq_true z);exact jo (u _ (lo+(l+r) / 2) (by omega) (by omega) (by omega)) (Int.not_lt.mp c)
  case ipost =>
   rintro c st2 ⟨rfl,l,r,rfl,a1,a3,a4⟩;refine wpS_bind (aF5 S fun st3 S3=>wpS_pure ⟨rfl,_,S3,avD P,fun i hi=>?_,avF (by omega) a1 u a3 a4⟩);show at' (bubble q (lo+k) (lo+k - (lo+l))) i=at' p i;rw [abM (by omega) (by omega),if_neg (by omega),if_neg (by omega)];exact o i hi
theorem a9J (i:Nat):mergeAt' i=(do
 let s ← get
 let (some (s1,n1,w0),some (s2,n2,_)):=((pendingOf s)[i]?,(pendingOf s)[i+1]?) | unsupported "internal:list.sort.pending"
 set (av6 s (((pendingOf s).setIfInBounds i (s1,n1+n2,w0)).eraseIdxIfInBounds (i+1)))
 let some k ← n6 false (← elem' (arrOf s) s2) (arrOf s) s1 n1 0 | return false
 let (s1,n1):=(s1+k,n1 - k)
 if n1 == 0 then return true
 let some n2 ← n6 true (← elem' (arrOf s) (s1+n1 - 1)) (arrOf s) s2 n2 (n2 - 1) | return false
 if n2 == 0 then return true
 let x0:=(arrOf s).extract s1 s2
 let y0:=(arrOf s).extract s2 (s2+n2)
 let g0 ← if n1<=n2 then xA x0 y0 else xB x0 y0
 modify fun s=>ao6 s (g0.toList.zipIdx.foldl (fun a (p,j)=>a.setIfInBounds (s1+j) p) (arrOf s))
 return (failedOf (← get)).isNone):=rfl
end
end TS
namespace TS
open PySem PyProof.Rows
theorem a9K {α:Type} (sa:Nat):∀ (l:List α) (j:Nat) (a:Array α),sa+j+l.length<=a.size->((l.zipIdx j).foldl (fun a (p,j)=>a.setIfInBounds (sa+j) p) a).toList=a.toList.take (sa+j)++l++a.toList.drop (sa+j+l.length)
 | [],j,a,h=>by simp
 | x :: l,j,a,h=>by
  rw [List.zipIdx_cons,List.foldl_cons];rw [a9K sa l (j+1) _ (by rw [Array.size_setIfInBounds];simp at h;omega)];simp only [qg] at h;dsimp only;rw [Array.toList_setIfInBounds,show sa+(j+1)=sa+j+1 by omega,List.take_set,List.drop_set_of_lt (by omega),List.take_succ_eq_append_getElem (by simp;omega),List.set_append_right _ _ (by simp;omega)];rw [show sa+j - (List.take (sa+j) a.toList).length=0 by simp;omega];simp;congr 1;omega
section
variable {M:Model} {A:Around} {E:Value->Shared->Prop} {s:Shared} {f:Nat->Keyed} {kf:Nat->Int} {N:Nat} {κ:SortKind} {p:Array Nat} {pd:Array (Nat×Nat×Nat)}
theorem ao9 {σ:Type} {st st':σ} {Q:PUnit->σ->Prop} (h:Q ⟨⟩ st'):wpS M A E s (set st':StateT σ Sem PUnit) Q st:=by
 unfold wpS;rw [StateT.run_set];exact bh ⟨rfl,h⟩
theorem adN {base n:Nat} (u:f9 kf p base (base+n)) {left:Bool} {key:Nat} (i j:Nat) (hij:i<=j) (hj:j < n) (e:pL kf left key (at' p (base+j))=true):pL kf left key (at' p (base+i))=true:=by
 have:=u (base+i) (base+j) (by omega) (by omega) (by omega);cases left with
 | true=>exact abK.2 (Int.lt_of_le_of_lt this (abK.1 e))
 | false=>exact a9D.2 (jo this (a9D.1 e))
theorem ajF {a b i:Nat} (hb:b<=p.size) (hi:i < b - a):at' (p.extract a b) i=at' p (a+i):=by
 apply L2.eY;rw [Array.getElem?_extract,qu hb,if_pos hi]
theorem aoA (u:p.toList.Pairwise (Le kf)):f9 kf p 0 p.size:=fun i j _ b c=>by
 by_cases e:i=j
 ·subst e;exact mq _
 ·have:=qw.mp u i j (by simp;omega) (by simpa using c) (by omega);simpa [at',qb,c,show i < p.size by omega] using this
theorem aqY {a b:Nat} (hb:b<=p.size) (u:f9 kf p a b):((p.toList.take b).drop a).Pairwise (Le kf) :=
 qw.mpr fun i j hi hj hij=>by
  have hj':j < b - a:=by simp at hj;omega
  have:=u (a+i) (a+j) (by omega) (by omega) (by omega);simpa [at',qb,show a+i < p.size by omega,show a+j < p.size by omega] using this
theorem mem_mid {i n x:Nat} (h:x∈((p.toList.take n).drop i)):∃ j,i<=j/\j < n/\j < p.size/\x=at' p j:=a5A (a0m.mpr h)
theorem adO {a b:Nat}:(p.extract a b).toList=(p.toList.take b).drop a:=by simp [List.drop_take]
theorem avG (hL:a3P M A E s f kf N κ) (P:L2.Pm N p) {st:SortSt} {n1 n2 pw q0:Nat} (S:AS f κ #[(0,n1,pw),(n1,n2,q0)] p st) (h1:1<=n1) (h2:1<=n2) (e:n1+n2=N) (ua:f9 kf p 0 n1) (ub:f9 kf p n1 N) {Q:Bool->SortSt->Prop}
  (h:∀ q st',AS f κ #[(0,N,pw)] q st'->L2.Pm N q->f9 kf q 0 N->Q true st'):wpS M A E s (mergeAt' 0) Q st:=by
 have z:=P.size;have hI:In N p:=fun i hi=>P.lt (by omega);have e0:(pendingOf st)[0]?=some (0,n1,pw):=by rw [S.pend];rfl
 have e1:(pendingOf st)[0+1]?=some (n1,n2,q0):=by rw [S.pend];rfl
 rw [a9J];refine wpS_bind (wpS_get ?_);rw [e0,e1];have S1:AS f κ #[(0,N,pw)] p (av6 st (((pendingOf st).setIfInBounds 0 (0,n1+n2,pw)).eraseIdxIfInBounds (0+1))):=⟨S.kind,S.arr,by show ((pendingOf st).setIfInBounds 0 (0,n1+n2,pw)).eraseIdxIfInBounds (0+1)=_;rw [S.pend,e];simp [Array.eraseIdxIfInBounds,Array.setIfInBounds],S.fail⟩;refine wpS_bind (ao9 ?_);generalize av6 st (((pendingOf st).setIfInBounds 0 (0,n1+n2,pw)).eraseIdxIfInBounds (0+1))=st1 at S1 ⊢;rw [S.arr];refine wpS_bind (bD (i:=n1) (by omega) (wpS_bind (zE (base:=0) (n:=n1) (hint:=0) hL (P.lt (by omega)) hI (by omega) (by omega) (adN (by rw [jk];exact ua)) S1.kind fun k k1 k2 k3=>?_)));simp only [jk] at k2 k3;refine aK (fun c=>?_) fun c=>?_
 ·have c:n1 - k=0:=by simpa using c
  refine wpS_pure (h p _ S1 P fun i j a b d=>?_);by_cases i1:n1<=i
  ·exact ub i j i1 b d
  ·by_cases j1:j < n1
   ·exact ua i j a b j1
   ·exact jo (a9D.1 (k2 i (by omega))) (ub n1 j (by omega) (by omega) d)
 have c:k < n1:=Nat.lt_of_sub_ne_zero fun z=>c (by simpa using z);have ek:0+k+(n1 - k) - 1=n1 - 1:=by rw [jk,wj k1]
 rw [show (0+k,n1 - k).1+(0+k,n1 - k).2 - 1=n1 - 1 from ek];clear ek;have n1z:n1 - 1 < p.size:=by clear c;omega
 have zn:n1<=p.size:=by clear c;omega
 refine wpS_bind (bD (i:=n1 - 1) n1z (wpS_bind (zE (base:=n1) (n:=n2) (hint:=n2 - 1) hL (P.lt (z ▸ n1z)) hI (by rw [e,z];exact au _) (zq h2 yj) (adN (by rw [e];exact ub)) S1.kind fun m m1 m2 m3=>?_)));refine aK (fun c=>?_) fun c2=>?_
 ·have c:m=0:=by simpa using c
  subst c;refine wpS_pure (h p _ S1 P fun i j a b d=>?_);by_cases i1:n1<=i
  ·exact ub i j i1 b d
  ·by_cases j1:j < n1
   ·exact ua i j a b j1
   ·exact jo (ua i (n1 - 1) a (Nat.le_sub_one_of_lt (Nat.lt_of_not_le i1)) (zq h1 yj)) (wj (zf j1) ▸ adL.1 (m3 (j - n1) (je _) (Nat.sub_lt_left_of_lt_add (zf j1) (e ▸ d))))
 have c2:0 < m:=a0d fun z=>c2 (by simpa using z);have zm:n1+m<=p.size:=by rw [z,← e];exact Nat.add_le_add_left m1 _
 have xe:(p.map f).extract (0+k) n1=(p.extract k n1).map f:=by rw [jk];simp
 have ye:(p.map f).extract n1 (n1+m)=(p.extract n1 (n1+m)).map f:=by simp
 show wpS M A E s (do
   let merged ← if n1 - k<=m then xA ((p.map f).extract (0+k) n1) ((p.map f).extract n1 (n1+m)) else xB ((p.map f).extract (0+k) n1) ((p.map f).extract n1 (n1+m))
   modify fun s=>ao6 s (merged.toList.zipIdx.foldl (fun a (p,j)=>a.setIfInBounds (0+k+j) p) (arrOf s))
   return (failedOf (← get)).isNone) Q st1
 rw [xe,ye];have za:(p.extract k n1).size=n1 - k:=by rw [Array.size_extract,qu zn]
 have zb:(p.extract n1 (n1+m)).size=m:=by rw [Array.size_extract,qu zm,Nat.add_sub_cancel_left]
 have aa:∀ i,i < n1 - k->at' (p.extract k n1) i=at' p (k+i):=fun i hi=>ajF zn hi;have ab:∀ i,i < m->at' (p.extract n1 (n1+m)) i=at' p (n1+i):=fun i hi=>ajF zm (by rwa [Nat.add_sub_cancel_left]);have ki:∀ i,i < (p.extract k n1).size->k+i < n1:=fun i hi=>Nat.add_comm k i ▸ Nat.add_lt_of_lt_sub (za ▸ hi);have mi:∀ i,i < (p.extract n1 (n1+m)).size->n1+i < N:=fun i hi=>z ▸ cu (Nat.add_lt_add_left (zb ▸ hi) _) zm;have Ia:In N (p.extract k n1):=fun i hi=>by rw [aa i (za ▸ hi)];exact P.lt (cu (ki i hi) (z ▸ zn))
 have Ib:In N (p.extract n1 (n1+m)):=fun i hi=>by rw [ab i (zb ▸ hi)];exact P.lt (mi i hi)
 have Ua:Up kf (p.extract k n1):=fun i j hij hj=>by rw [aa i (Nat.lt_of_le_of_lt hij (za ▸ hj)),aa j (za ▸ hj)];exact ua _ _ (je _) (Nat.add_le_add_left hij _) (ki j hj)
 have Ub:Up kf (p.extract n1 (n1+m)):=fun i j hij hj=>by rw [ab i (Nat.lt_of_le_of_lt hij (zb ▸ hj)),ab j (zb ▸ hj)];exact ub _ _ (Nat.le_add_right _ _) (Nat.add_le_add_left hij _) (mi j hj)
 have Hf:kf (at' (p.extract n1 (n1+m)) 0) < kf (at' (p.extract k n1) 0):=by rw [aa 0 (a0g c),ab 0 c2];exact aj3.1 (k3 k (au _) c)
 have Hl:∀ j,j < (p.extract n1 (n1+m)).size->kf (at' (p.extract n1 (n1+m)) j)<=kf (at' (p.extract k n1) ((p.extract k n1).size - 1)):=fun j hj=>by
  rw [ab j (zb ▸ hj),za,aa _ (zq (a0g c) yj),← Nat.add_sub_assoc (a0g c),wj k1];exact ni (abK.1 (m2 j (zb ▸ hj)))
 have fin:∀ r st',bB st1 st'->GoodR f kf ((p.extract k n1).toList++(p.extract n1 (n1+m)).toList) r->wpS M A E s (do
   modify fun s=>ao6 s (r.toList.zipIdx.foldl (fun a (p,j)=>a.setIfInBounds (0+k+j) p) (arrOf s))
   return (failedOf (← get)).isNone) Q st':=by
  rintro r st' ⟨s1,s2,s3,s4⟩ ⟨l,el,lp,lw⟩;have ll:l.length=n1 - k+m:=by rw [lw.length_eq,mj,pq,pq,za,zb]
  have ln:k+(n1 - k+m)=n1+m:=by rw [← Nat.add_assoc,wj k1]
  refine wpS_bind (wpS_modify (wpS_bind (wpS_get ?_)))
  have ev:(r.toList.zipIdx.foldl (fun a (p,j)=>a.setIfInBounds (0+k+j) p) (arrOf st'))=((p.toList.take k++l++p.toList.drop (n1+m)).toArray).map f:=by
   apply Array.ext';rw [s2,S1.arr,a9K (0+k) r.toList 0 _ (by rw [el,bx,ll,Nat.add_zero,jk,ln,qj];exact zm),el];simp [a0k,a0j,ll];rw [ln]
  have hf:(failedOf (ao6 st' (r.toList.zipIdx.foldl (fun a (p,j)=>a.setIfInBounds (0+k+j) p) (arrOf st')))).isNone=true:=by
   show (failedOf st').isNone=true;rw [s4,S1.fail];rfl
  rw [hf]
  have mp:p.toList=p.toList.take k++((p.extract k n1).toList++(p.extract n1 (n1+m)).toList)++p.toList.drop (n1+m):=by
   rw [adO,adO]
   have a1:(p.toList.take n1)=p.toList.take k++(p.toList.take n1).drop k:=by
    have:=(uf k (p.toList.take n1)).symm
    rwa [List.take_take,qu k1] at this
   have a2:(p.toList.take (n1+m))=p.toList.take n1++(p.toList.take (n1+m)).drop n1:=by
    have:=(uf n1 (p.toList.take (n1+m))).symm
    rwa [List.take_take,qu (Nat.le_add_right _ _)] at this
   rw [← jz,← a1,← a2,uf]
  have pm:(p.toList.take k++l++p.toList.drop (n1+m)).Perm p.toList:=by
   conv=>rhs;rw [mp]
   exact (lw.append_left _).append_right _
  have P2:L2.Pm N (p.toList.take k++l++p.toList.drop (n1+m)).toArray:=⟨by rw [← z];simpa using pm.length_eq,pm.trans P.perm⟩;refine wpS_pure (h _ _ ⟨s1.trans S1.kind,ev,s3.trans S1.pend,s4.trans S1.fail⟩ P2 ?_)
  have D1:∀ x,x∈p.toList.drop (n1+m)->∃ j,n1+m<=j/\j < N/\x=at' p j:=fun x hx=>by
   obtain ⟨j,a,b,c⟩:=fD hx;exact ⟨j,a,z ▸ b,c⟩
  have T1:∀ x,x∈p.toList.take k->∃ j,j < k/\x=at' p j:=fun x hx=>by
   obtain ⟨j,a,b,c⟩:=n8 (a0m.mpr hx);exact ⟨j,a,c⟩
  have M1:∀ x,x∈l->(∃ j,k<=j/\j < n1/\x=at' p j)∨∃ j,n1<=j/\j < n1+m/\x=at' p j:=fun x hx=>by
   have:=lw.mem_iff.mp hx;rw [adO,adO] at this;rcases qe.mp this with q | q
   ·obtain ⟨j,a,b,c,d⟩:=mem_mid q;exact .inl ⟨j,a,b,d⟩
   ·obtain ⟨j,a,b,c,d⟩:=mem_mid q;exact .inr ⟨j,a,b,d⟩
  rw [← P2.size];refine aoA ?_;show (p.toList.take k++l++p.toList.drop (n1+m)).Pairwise (Le kf);have tb:∀ i j,i < k->n1<=j->j < N->kf (at' p i)<=kf (at' p j):=fun i j hi hj hn=>jo (a9D.1 (k2 i hi)) (ub n1 j (au _) hj hn);have ad:∀ i j,i < n1->n1+m<=j->j < N->kf (at' p i)<=kf (at' p j):=fun i j hi hj hn=>jo (ua i (n1 - 1) (je _) (Nat.le_sub_one_of_lt hi) (zq h1 yj)) (wj (a0i hj) ▸ adL.1 (m3 (j - n1) (Nat.le_sub_of_add_le (Nat.add_comm n1 m ▸ hj)) (Nat.sub_lt_left_of_lt_add (a0i hj) (e ▸ hn))));rw [jw,jw];refine ⟨⟨?_,lp,fun x hx y hy=>?_⟩,?_,fun x hx y hy=>?_⟩
  ·have:=aqY (a:=0) (b:=k) (ju k1 zn) (fun i j a b c=>ua i j a b (cu c k1));simpa using this
  ·obtain ⟨i,hi,rfl⟩:=T1 x hx;rcases M1 y hy with ⟨j,a,b,rfl⟩ | ⟨j,a,b,rfl⟩
   ·exact ua i j (je _) (jx (cu hi a)) b
   ·exact tb i j hi a (cu b (z ▸ zm))
  ·have:=aqY (a:=n1+m) (b:=N) (yt z.symm) (fun i j a b c=>ub i j (a0i a) b c)
   rwa [vd (by simp [z])] at this
  ·obtain ⟨j,j1,j2,rfl⟩:=D1 y hy;rcases qe.mp hx with hx | hx
   ·obtain ⟨i,hi,rfl⟩:=T1 x hx;exact ad i j (cu hi k1) j1 j2
   ·rcases M1 x hx with ⟨i,a,b,rfl⟩ | ⟨i,a,b,rfl⟩
    ·exact ad i j b j1 j2
    ·exact ub i j a (jx (cu b j1)) j2
 have B:Bth M A E s f kf N κ _ _:=⟨hL,Ia,Ib,Ua,Ub,Nat.lt_of_lt_of_eq (a0g c) za.symm,Nat.lt_of_lt_of_eq c2 zb.symm,Hf,Hl⟩;exact aK (fun _=>wpS_bind (aAT B S1.kind fin)) fun _=>wpS_bind (aAV B S1.kind fin)
end
end TS
namespace TS
open PySem PyProof.Rows
section
variable {M:Model} {A:Around} {E:Value->Shared->Prop} {s:Shared} {f:Nat->Keyed} {kf:Nat->Int} {N:Nat} {κ:SortKind} {p:Array Nat}
theorem AS.push {pd:Array (Nat×Nat×Nat)} {st:SortSt} (S:AS f κ pd p st) (x:Nat×Nat×Nat):AS f κ (pd.push x) p (setPending st ((pendingOf st).push x)):=⟨S.kind,S.arr,by show (pendingOf st).push x=_;rw [S.pend],S.fail⟩
theorem mod_one {α:Type} (x:α) (g:α->α):(#[x]:Array α).modify (#[x].size - 1) g=#[g x]:=by
 apply Array.ext';simp [Array.toList_modify]
theorem AS.aF6 {st:SortSt} {x:Nat×Nat×Nat} (S:AS f κ #[x] p st) (g:Nat×Nat×Nat->Nat×Nat×Nat):AS f κ #[g x] p (setPending st ((pendingOf st).modify ((pendingOf st).size - 1) g)):=⟨S.kind,S.arr,by show (pendingOf st).modify _ g=_;rw [S.pend];exact mod_one x g,S.fail⟩
def One (f:Nat->Keyed) (κ:SortKind) (kf:Nat->Int) (N:Nat) (st:SortSt):Prop:=∃ q pw,AS f κ #[(0,N,pw)] q st/\L2.Pm N q/\f9 kf q 0 N
def Two (f:Nat->Keyed) (κ:SortKind) (kf:Nat->Int) (N:Nat) (st:SortSt):Prop:=∃ q n1 n2 pw,AS f κ #[(0,n1,pw),(n1,n2,0)] q st/\L2.Pm N q/\1<=n1/\1<=n2/\n1+n2=N/\f9 kf q 0 n1/\f9 kf q n1 N
theorem aoB (hL:a3P M A E s f kf N κ) (hd:∀ i j,i < N->j < N->kf i=kf j->i=j) (h64:64<=N) (abO:N < 128) (P:L2.Pm N p) {st:SortSt} (S:AS f κ #[] p st) {Q:Unit->SortSt->Prop}
  (h:∀ q st',arrOf st'=q.map f->failedOf st'=none->L2.Pm N q->f9 kf q 0 N->Q () st'):wpS M A E s sortRuns' Q st:=by
 have z:=P.size;have za:(arrOf st).size=N:=by rw [S.arr,qj,z]
 rw [sortRuns'_eq];refine wpS_bind (wpS_get ?_)
 have hmr:minRun' N N 0=N / 2+N % 2:=by
  obtain ⟨r,rfl⟩:∃ r,N=r+3:=⟨N - 3,by omega⟩;rw [minRun'_succ,if_neg (by omega),minRun'_succ,if_pos (by omega)];omega
 rw [za];clear za;obtain ⟨mr,emr⟩:∃ mr,mr=minRun' N N 0:=⟨_,rfl⟩;rw [← emr] at hmr;have hm:N<=2 * mr:=by rw [hmr];clear hmr;omega
 have hm1:mr < N:=by rw [hmr];clear hmr;omega
 clear hmr
 refine wpS_bind (wpS_mono (wpS_forRange (I:=fun x c st'=>(x=0/\c=(none,0)/\AS f κ #[] p st')∨(x=1/\∃ n1 q,c=(none,n1)/\1<=n1/\mr<=n1/\n1<=N/\AS f κ #[(0,n1,0)] q st'/\L2.Pm N q/\f9 kf q 0 n1)∨(2<=x/\c=(none,N)/\Two f κ kf N st'))
  (Q:=fun c st'=>c.1=none/\(One f κ kf N st'∨Two f κ kf N st')) ?step ?fin (.inl ⟨rfl,rfl,S⟩)) ?post)
 case fin =>
  rintro c st' (⟨a,_⟩ | ⟨a,_⟩ | ⟨_,rfl,T⟩)
  ·exfalso;have:max 0 N=0:=a;omega
  ·exfalso;have:max 0 N=1:=a;omega
  ·exact ⟨rfl,.inr T⟩
 case post =>
  rintro ⟨c1,c2⟩ st' ⟨rfl,T⟩
  refine wpS_bind (wpS_mono (wpS_forRange (I:=fun x c st'=>c=(none,())/\(One f κ kf N st'∨(x=0/\Two f κ kf N st')))
   (Q:=fun c st'=>c=(none,())/\One f κ kf N st') ?step1 ?avE ⟨rfl,T.imp id fun t=>⟨rfl,t⟩⟩) ?ajE)
  case avE =>
   rintro c st' ⟨rfl,o | ⟨a,_⟩⟩
   ·exact ⟨rfl,o⟩
   ·exfalso;have:max 0 N=0:=a;omega
  case ajE =>
   rintro c st' ⟨rfl,q,pw,S,P,u⟩;exact wpS_pure (h q _ S.arr S.fail P u)
  case step1 =>
   rintro x c st' _ hx ⟨rfl,o | ⟨rfl,q,n1,n2,pw,S,P,a1,a2,e,u1,u2⟩⟩
   ·refine wpS_bind (wpS_get (aK (fun _=>wpS_pure ⟨rfl,o⟩) fun c=>?_));obtain ⟨q,pw,S,P,u⟩:=o;exfalso;refine c ?_;show (pendingOf st').size<=1;rw [S.pend];exact au 1
   ·refine wpS_bind (wpS_get ?_);rw [S.pend];refine aK (fun c=>absurd (show 2<=1 from c) (by omega)) fun _=>?_;refine wpS_bind (avG hL P S a1 a2 e u1 u2 fun q st2 S2 P2 u=>?_);exact wpS_pure ⟨rfl,.inl ⟨q,pw,S2,P2,u⟩⟩
 case step =>
  rintro x c st' _ hx (⟨rfl,rfl,S⟩ | ⟨rfl,n1,q,rfl,a1,a2,a3,S,P,u⟩ | ⟨_,rfl,T⟩)
  ·refine aK (fun c=>absurd (show 0≥N from c) (by omega)) fun _=>?_;refine wpS_bind (ajD hL hd P S (lo:=0) (nr:=N - 0) (by omega) (by omega) fun m q st2 S2 P2 _ m1 m2 u=>?_);rw [jk] at u;refine aK (fun lt=>?_) fun lt=>?_
   ·have lt:m < minRun' N N 0:=lt;refine wpS_bind (wpS_lift (wpAny_rule ⟨rfl,?_⟩));refine wpS_bind (z8 hL P2 S2 (lo:=0) (n:=min (N - 0) (minRun' N N 0)) m1 (by omega) (by omega) (by rw [jk];exact u) fun q3 st3 S3 P3 _ u3=>?_);refine wpS_bind (wpS_get ?_);rw [S3.pend];refine wpS_bind (wpS_modify (wpS_pure (.inr (.inl ⟨rfl,min (N - 0) (minRun' N N 0),q3,by rw [jk],by omega,by omega,by omega,S3.push _,P3,by rwa [jk] at u3⟩))))
   ·have lt:¬ m < minRun' N N 0:=lt;refine wpS_bind (wpS_get ?_);rw [S2.pend];refine wpS_bind (wpS_modify (wpS_pure (.inr (.inl ⟨rfl,m,q,by rw [jk],by omega,by omega,by omega,S2.push _,P2,u⟩))))
  ·refine aK (fun c=>?_) fun c=>?_
   ·have c:n1≥N:=c;obtain rfl:n1=N:=by omega
    exact wpS_pure ⟨rfl,.inl ⟨q,0,S,P,u⟩⟩
   have c:¬ n1≥N:=c;refine wpS_bind (ajD hL hd P S (lo:=n1) (nr:=N - n1) (by omega) (by omega) fun m q2 st2 S2 P2 o2 m1 m2 u2=>?_);have u1:f9 kf q2 0 n1:=fun i j x1 x2 x3=>by rw [o2 i (by omega),o2 j (by omega)];exact u i j x1 x2 x3
   have key:∀ q3 st3,AS f κ #[(0,n1,0)] q3 st3->L2.Pm N q3->f9 kf q3 0 n1->f9 kf q3 n1 N->∀ pw,Two f κ kf N (setPending (setPending st3 ((pendingOf st3).modify ((pendingOf st3).size - 1) fun x=>match x with | (st,len,snd)=>(st,len,pw))) ((pendingOf (setPending st3 ((pendingOf st3).modify ((pendingOf st3).size - 1) fun x=>match x with | (st,len,snd)=>(st,len,pw)))).push (n1,N - n1,0))) :=
    fun q3 st3 S3 P3 v1 v2 pw=>⟨q3,n1,N - n1,pw,AS.push (S3.aF6 fun x=>match x with | (st,len,snd)=>(st,len,pw)) (n1,N - n1,0),P3,a1,by omega,by omega,v1,v2⟩
   have pwl:∀ (q3:Array Nat) (st3:SortSt) (pw:Nat),AS f κ #[(0,n1,0)] q3 st3->wpS M A E s (forIn [:N] (none,()) fun (x:Nat) (__s:Option Unit×Unit)=>do
      let g ← get
      match if (pendingOf g).size > 1 then (pendingOf g)[(pendingOf g).size - 2]? else none with
       | some (_,_,older)=>if older<=pw then pure (ForInStep.done (none,())) else do
               let b ← mergeAt' ((pendingOf g).size - 2)
               if (!b)=true then pure (ForInStep.done (some (),())) else pure (ForInStep.yield (none,()))
       | x=>pure (ForInStep.done (none,()))) (fun c st4=>c=(none,())/\st4=st3) st3:=fun q3 st3 pw S3=>by
    refine wpS_forRange (I:=fun _ c st4=>c=(none,())/\st4=st3) (fun x c st4 _ _ ⟨e1,e2⟩=>?_) (fun c st4 e=>e) ⟨rfl,rfl⟩;subst e2;refine wpS_bind (wpS_get ?_);rw [show (if (pendingOf st4).size > 1 then (pendingOf st4)[(pendingOf st4).size - 2]? else none)=none by rw [S3.pend];rfl];exact wpS_pure ⟨rfl,rfl⟩
   refine aK (fun lt=>?_) fun lt=>?_
   ·have lt:m < minRun' N N 0:=lt;refine wpS_bind (wpS_lift (wpAny_rule ⟨rfl,?_⟩));refine wpS_bind (z8 hL P2 S2 (lo:=n1) (n:=min (N - n1) (minRun' N N 0)) m1 (by omega) (by omega) u2 fun q3 st3 S3 P3 o3 u3=>?_);have e3:min (N - n1) (minRun' N N 0)=N - n1:=by omega
    have v1:f9 kf q3 0 n1:=fun i j x1 x2 x3=>by rw [o3 i (by omega),o3 j (by omega)];exact u1 i j x1 x2 x3
    rw [e3,show n1+(N - n1)=N by omega] at u3;refine wpS_bind (wpS_get ?_);rw [S3.pend];refine wpS_bind (wpS_mono (pwl q3 st3 _ S3) fun c st4 ⟨e1,e2⟩=>?_);subst e1;subst e2;refine wpS_bind (wpS_modify (wpS_bind (wpS_modify (wpS_pure (.inr (.inr ⟨au _,?_,?_⟩))))))
    ·show (none,n1+min (N - n1) (minRun' N N 0))=(none,N);rw [e3,show n1+(N - n1)=N by omega]
    ·have:=key q3 st4 S3 P3 v1 u3;rw [← e3] at this;exact this _
   ·have lt:¬ m < minRun' N N 0:=lt;obtain rfl:m=N - n1:=by omega
    rw [show n1+(N - n1)=N by omega] at u2;refine wpS_bind (wpS_get ?_);rw [S2.pend];refine wpS_bind (wpS_mono (pwl q2 st2 _ S2) fun c st4 ⟨e1,e2⟩=>?_);subst e1;subst e2;refine wpS_bind (wpS_modify (wpS_bind (wpS_modify (wpS_pure (.inr (.inr ⟨au _,?_,key q2 st4 S2 P2 u1 u2 _⟩))))));show (none,n1+(N - n1))=(none,N);rw [show n1+(N - n1)=N by omega]
  ·exact aK (fun _=>wpS_pure ⟨rfl,.inr T⟩) fun c=>absurd (show N≥N from au _) c
end
end TS
namespace L2
open PySem PySem.Spec PyProof.Rows
variable {vs:List Value}
section
open PySem.W
section
variable {prog:Program} {w:World} {A:Around} {E:Value->Shared->Prop} {s:Shared}
theorem afX {κ:SortKind} {kf:Nat->Int} (k2:∀ i j (C:Bool->Shared->Prop),i < vs.length->j < vs.length->C (decide (kf i < kf j)) s->kas_ask prog w A κ vs i j C s):TS.a3P (model prog w) A E s (kas_item (vs.toArray.zip vs.toArray)) kf vs.length κ:=fun i j st Q hi hj hk h=>by
 rw [lt'_eq];refine wpS_bind (wpS_get ?_);rw [hk];have z:=k2 i j (fun c s'=>s'=s/\c=decide (kf i < kf j)) hi hj ⟨rfl,rfl⟩;unfold kas_ask at z;refine wpS_bind (wpS_lift (wpAny_attempt (wpAny_mono ?_ (fun c s' (hc:s'=s/\c=decide (kf i < kf j))=>?_) fun _ _ (hF:False)=>hF.elim)))
 ·have e:=kas_item_eq vs;have e1:(kas_item (vs.toArray.zip vs.toArray) i).1=vs.getD i Value.none:=by rw [show vs.toArray.zip vs.toArray=pairsOf vs from rfl,e]
  have e2:(kas_item (vs.toArray.zip vs.toArray) j).1=vs.getD j Value.none:=by rw [show vs.toArray.zip vs.toArray=pairsOf vs from rfl,e]
  rw [e1,e2];exact z
 ·obtain ⟨rfl,rfl⟩:=hc;exact ⟨rfl,wpS_pure h⟩
theorem avH {κ:SortKind} {kf:Nat->Int} (l2:2<=vs.length) (abO:vs.length < 128) (hd:∀ i j,i < vs.length->j < vs.length->kf i=kf j->i=j)
  (k2:∀ i j (C:Bool->Shared->Prop),i < vs.length->j < vs.length->C (decide (kf i < kf j)) s->kas_ask prog w A κ vs i j C s) :
  wpAny (model prog w) A (sortRuns'.run (SortSt.mk' κ (vs.toArray.zip vs.toArray) #[] 7 none)) (fun r s'=>s'=s/\failedOf r.2=none/\∃ q,Pm vs.length q/\Up kf q vs.length/\arrOf r.2=q.map (kas_item (vs.toArray.zip vs.toArray))) E s:=by
 by_cases h64:vs.length < 64
 ·exact kat_run (Q:=fun st' s'=>s'=s/\failedOf st'=none/\∃ q,Pm vs.length q/\Up kf q vs.length/\arrOf st'=q.map (kas_item (vs.toArray.zip vs.toArray))) (G:=fun q s'=>s'=s/\Pm vs.length q/\Up kf q vs.length) rfl l2 h64 (fun p st' s' a1 a2 a3 a4=>⟨a4.1,a3,p,a4.2.1,a4.2.2,a2⟩)
   (anZ (I:=fun s'=>s'=s) (fun i j C s' hi hj es hC=>by subst es;exact k2 i j C hi hj (hC _ rfl)) hd l2 rfl fun q s' P u es=>⟨es,P,u⟩)
 ·have P0:Pm vs.length (List.toArray (dh vs.length)):=⟨by simp,by simp⟩;have zs:(vs.toArray.zip vs.toArray).size=vs.length:=by simp
  have er:(List.toArray (dh vs.length)).map (kas_item (vs.toArray.zip vs.toArray))=vs.toArray.zip vs.toArray:=by
   have:=kas_range (vs.toArray.zip vs.toArray)
   rwa [zs] at this
  exact TS.aoB (Q:=fun _ st'=>failedOf st'=none/\∃ q,Pm vs.length q/\Up kf q vs.length/\arrOf st'=q.map (kas_item (vs.toArray.zip vs.toArray))) (afX k2) hd (by omega) abO P0 (st:=SortSt.mk' κ (vs.toArray.zip vs.toArray) #[] 7 none) ⟨rfl,er.symm,rfl,rfl⟩ fun q st' a b P u=>⟨b,q,P,fun i j hij hj=>u i j (je _) hij hj,a⟩
theorem afY {kf:Nat->Int} {a:Addr} {n:Nat} {P:PySem.Fin->Shared->Prop} (ho:s.heap.get? a=some (seqObj "list" vs.toArray n)) (abO:vs.length < 128) (hd:∀ i j,i < vs.length->j < vs.length->kf i=kf j->i=j)
  (hk:2<=vs.length->∀ h':Heap,(∀ b o,b≠a->s.heap.get? b=some o->h'.get? b=some o)->aiR prog w A s kf vs h')
  (h:∀ q,Pm vs.length q->Up kf q vs.length->P (.done (.ret .none)) { s with heap:=sortedHeap s.heap a vs (q.toList.map fun i=>vs.getD i Value.none).toArray }):wpAny (model prog w) A (Builtin.«list.sort» ⟨[.ref a],[]⟩) P E s:=by
 have big:1000 < sizeLine:=by decide
 have la:a < s.heap.objs.size:=cg ho;rw [list_sort_plain];refine aj (listItems_at ho rfl (aj (listUpdate_at ho rfl ?_ (by rw [aq];omega) (je _))));obtain ⟨e1,ho1⟩:∃ e1,(s.heap.update a (Obj.mapSeq fun _=>(#[]:Array Value))).get? a=some (seqObj "list" #[] e1):=⟨_,get?_update_seq ho fun _=>#[]⟩;refine aj (seqEpoch_at ho1 rfl (aj (wpAny_newTuple ?_ (by show vs.length<=_;omega))));refine aj (wpAny_newList ?_ (je _));refine wpAny_holding ?_;have s0:=nu.update s.heap a (Obj.mapSeq fun _=>(#[]:Array Value));have kp:∀ b o,b≠a->s.heap.get? b=some o->(((s.heap.update a (Obj.mapSeq fun _=>(#[]:Array Value))).push (seqObj "tuple" vs.toArray 0)).push (seqObj "list" #[] 0)).get? b=some o:=fun b o hb e=>ao _ (ao _ ((s0.2 b hb).trans e));have ho6:(((s.heap.update a (Obj.mapSeq fun _=>(#[]:Array Value))).push (seqObj "tuple" vs.toArray 0)).push (seqObj "list" #[] 0)).get? a=some (seqObj "list" #[] e1):=ao _ (ao _ ho1);show wpAny (model prog w) A _ P E { s with heap:=((s.heap.update a (Obj.mapSeq fun _=>(#[]:Array Value))).push (seqObj "tuple" vs.toArray 0)).push (seqObj "list" #[] 0) };dsimp only;by_cases c2:vs.toArray.size < 2
 ·rw [if_pos c2,if_pos c2];refine aj (bh ?_);rw [StateT.run_pure];refine aj (bh ?_);dsimp only;have c3:vs.length < 2:=by simpa using c2
  have eo:(arrOf (SortSt.mk' general' (vs.toArray.zip vs.toArray) #[] 7 none)).map (·.2)=((dh vs.length).toArray.toList.map fun i=>vs.getD i Value.none).toArray:=by
   show (vs.toArray.zip vs.toArray).map (·.2)=_;exact afV c3
  refine aj (seqEpoch_at ho6 rfl ?_);rw [eo];refine aj (listUpdate_at ho6 rfl ?_ (je _) (by simp;omega));simp only [bne_self_eq_false,fj,if_false];exact bh (h (dh vs.length).toArray ⟨by rw [aq,List.length_range],.refl _⟩ fun i j hij hj=>by have:i=j:=(by omega);subst this;exact mq _)
 ·rw [if_neg c2,if_neg c2];have l2:2<=vs.length:=by rw [aq] at c2;omega
  obtain ⟨κ,k1,k2⟩:=hk l2 _ kp;refine aj (wpAny_mono (k1 (fun κ' s'=>κ'=κ/\s'={ s with heap:=((s.heap.update a (Obj.mapSeq fun _=>(#[]:Array Value))).push (seqObj "tuple" vs.toArray 0)).push (seqObj "list" #[] 0) }) ⟨rfl,rfl⟩) (fun κ' s' ⟨q1,q2⟩=>?_) fun _ _ z=>z.elim);subst q1;subst q2;refine aj (wpAny_mono (avH (s:={ s with heap:=((s.heap.update a (Obj.mapSeq fun _=>(#[]:Array Value))).push (seqObj "tuple" vs.toArray 0)).push (seqObj "list" #[] 0) }) l2 abO hd k2) ?_ fun _ _ e=>e);rintro ⟨⟨⟩,st'⟩ s' ⟨es,hf,q,P,u,har⟩;subst es;dsimp only;refine aj (seqEpoch_at ho6 rfl ?_);rw [kat_snds rfl har];refine aj (listUpdate_at ho6 rfl ?_ (je _) (by rw [aq,bx,pq,P.size];omega));rw [hf];simp only [bne_self_eq_false,fj,if_false];exact bh (h q P u)
theorem afZ {kf:Nat->Int} {l:Addr} {Q:Value->Shared->Prop} (hl:s.heap.IsList l vs.toArray) (abO:vs.length < 128) (hd:∀ i j,i < vs.length->j < vs.length->kf i=kf j->i=j)
  (hk:2<=vs.length->∀ h':Heap,(∀ b o,s.heap.get? b=some o->h'.get? b=some o)->aiR prog w A.in1.in1 s kf vs h')
  (h:∀ q,Pm vs.length q->Up kf q vs.length->Q (.ref (s.heap.objs.size+1)) { s with heap:=sortedAll s.heap vs (q.toList.map fun i=>vs.getD i Value.none).toArray }):wpAny (model prog w) A (call (.builtin "sorted") [.ref l]) Q E s:=by
 have big:1000 < sizeLine:=by decide
 refine Calls.call_function_entry kind_sorted plain_sorted entry_sorted (args_sorted1 _) ?_;unfold Builtin.«sorted»;refine aj (m:=checkCount "sorted" 1 1 _) (bh (aj (collect_list hl (aj (wpAny_newList ?_ (by omega))) (by omega))));have sz:((s.heap.push (seqObj "list" #[] 0)).update s.heap.objs.size (Obj.mapSeq (·++vs.toArray))).objs.size=s.heap.objs.size+1:=by rw [Heap.size_update,size_push']
 have oL:(((s.heap.push (seqObj "list" #[] 0)).update s.heap.objs.size (Obj.mapSeq (·++vs.toArray))).push (seqObj "list" vs.toArray 0)).get? (s.heap.objs.size+1)=some (seqObj "list" vs.toArray 0):=by rw [← sz];exact dw _ rfl
 have kp:∀ b o,s.heap.get? b=some o->(((s.heap.push (seqObj "list" #[] 0)).update s.heap.objs.size (Obj.mapSeq (·++vs.toArray))).push (seqObj "list" vs.toArray 0)).get? b=some o:=fun b o e=>ao _ (((nu.update (s.heap.push (seqObj "list" #[] 0)) s.heap.objs.size (Obj.mapSeq (·++vs.toArray))).2 b (gk (cg e))).trans (ao _ e));show wpAny _ _ _ _ _ { s with heap:=((s.heap.push (seqObj "list" #[] 0)).update s.heap.objs.size (Obj.mapSeq (·++vs.toArray))).push (seqObj "list" vs.toArray 0) };rw [sz];refine aj (wpAny_holding (wpAny_call_entry slot_list_sort ⟨_,oL,rfl⟩ entry_list_sort (afY (kf:=kf) oL abO hd (fun l2 h' k'=>?_) fun q P u=>⟨_,rfl,bh ⟨_,rfl,h q P u⟩⟩) (args_list_sort _)));exact hk l2 h' fun b o e=>k' b o (gk (vm (cg e))) (kp b o e)
end
end
variable {rs:List (List Int)}
section
open PySem.W
section
variable {prog:Program} {w:World} {A:Around} {E:Value->Shared->Prop} {s:Shared}
theorem ajG {b:Bool} {fin:Bool} {C:Bool->Shared->Prop} {ns ms:List Int} {xs ys:List Value} (i:Nat) (hx:IntsAre xs ns) (hy:IntsAre ys ms) (hf:fin=decide (xs.length < ys.length)) (h:C (HT.lexLt ns ms) s):KatLex prog w A b fin C (xs.zip ys) i s:=by
 induction hx generalizing ys ms i with
 | nil =>
  refine kat_nil ?_;cases hy with
  | nil=>rw [hf];exact h
  | cons _ _ _=>rw [hf];simpa [HT.lexLt] using h
 | cons n t r ih =>
  cases hy with
  | nil=>exact kat_nil (by rw [hf];simpa [HT.lexLt] using h)
  | cons m u r' =>
   rw [HT.pN] at h;refine kat_cons (wpAny_eqBool_int (kat_go (fun e=>kat_yes (ih (i+1) r' (by rw [hf];simp) ?_)) fun e=>kat_no ?_))
   ·have:n=m:=by simpa using e
    rw [if_pos this] at h;exact h
   ·have:n≠m:=by simpa using e
    rw [if_neg this] at h;cases z:(b&&i == 0) with
    | true=>exact oneLt_int h
    | false=>exact kat_one _ _ (HT.ah8 _ _ _ _ _ _ _ _ _ _ h)
end
noncomputable def aoC (r:List Int):D := .tup (r.map D.int)
def aqZ (ds:List D) (G:Gp) (R:dX):Prop:=∃ (rs:List (List Int)) (kf:Nat->Int),ds=rs.map aoC/\(∀ r∈rs,r≠[])/\(∀ i j a b,rs[i]?=some a->rs[j]?=some b->HT.lexLt a b=decide (kf i < kf j))/\(∀ i j,i < rs.length->j < rs.length->kf i=kf j->i=j)/\rs.length < 128 /\
 ∀ q:Array Nat,Pm rs.length q->Up kf q rs.length->∀ r,G r=none->R (.ref r) (aG G r (.lst (q.toList.map fun i=>ds.getD i .non)))
noncomputable def pW:List D->Gp->dX->Prop:=fun xs G R=>match xs with
 | [.ref a]=>(match aL G a with
  | some ds=>aqZ ds G R
  | none=>False)
 | _=>False
def a1P (h:Heap) (rs:List (List Int)) (vs:List Value):Prop:=vs.length=rs.length/\∀ (i:Nat) (r:List Int),rs[i]?=some r->∃ (a:Addr) (o:Obj) (n:Nat) (its:Array Value),vs[i]?=some (Value.ref a)/\h.get? a=some o/\o.cls=Value.type "tuple" /\ o.data = .seq its n/\IntsAre its.toList r
theorem a1P.firsts {h:Heap}:∀ {rs:List (List Int)} {vs:List Value},a1P h rs vs->(∀ r∈rs,r≠[])->∃ fs:List Value,KatTups h vs fs/\fs.length=rs.length/\∀ v∈fs,∃ i t,v = .int i t
 | [],[],_,_=>⟨[],trivial,rfl,fun v h=>by cases h⟩
 | [],_ :: _,H,_=>absurd H.1 (by simp)
 | _ :: _,[],H,_=>absurd H.1 (by simp)
 | r :: rs,v :: vs,H,hne=>by
  obtain ⟨a,o,n,its,e1,e2,e3,e4,e5⟩:=H.2 0 r rfl;obtain ⟨fs,k1,k2,k3⟩:=a1P.firsts (h:=h) (rs:=rs) (vs:=vs) ⟨by simpa using H.1,fun i q hq=>by simpa using H.2 (i+1) q (by simpa using hq)⟩ fun q hq=>hne q (iu _ hq);have e1':v = .ref a:=by simpa using e1
  subst e1';obtain ⟨its⟩:=its;cases e5 with
  | nil=>exact absurd rfl (hne [] (jj ..))
  | cons m t rr =>
   refine ⟨.int m t :: fs,KatTups.cons e2 e3 e4 rfl k1,by simp [k2],fun u hu=>?_⟩;rcases jc.mp hu with rfl | hu
   ·exact ⟨_,_,rfl⟩
   ·exact k3 u hu
section
variable {prog:Program} {w:World} {A:Around} {s:Shared}
theorem ajH {kf:Nat->Int} (hkf:∀ i j a b,rs[i]?=some a->rs[j]?=some b->HT.lexLt a b=decide (kf i < kf j)) (hne:∀ r∈rs,r≠[]) (l2:2<=vs.length) {h':Heap} (hp:a1P h' rs vs):aiR prog w A s kf vs h':=by
 obtain ⟨fs,k1,k2,k3⟩:=hp.firsts hne;have len:=hp.1;refine ⟨tuples' (Value.type "int" != Value.type "tuple"),fun Q hQ=>kat_kind (s:={ s with heap:=h' }) k1 (by omega) (fun v hv=>?_) (by simp) hQ,fun i j C hi hj hC=>?_⟩
 ·obtain ⟨i,t,rfl⟩:=k3 v hv;exact .now
 ·obtain ⟨p,ep⟩:∃ p,rs[i]?=some p:=⟨_,dj (by omega)⟩;obtain ⟨q,eq⟩:∃ q,rs[j]?=some q:=⟨_,dj (by omega)⟩;obtain ⟨a,o,n,its,a1,a2,a3,a4,a5⟩:=hp.2 i p ep;obtain ⟨b,o',n',its',b1,b2,b3,b4,b5⟩:=hp.2 j q eq;have ga:vs.getD i Value.none = .ref a:=by simp [iz,a1]
  have gb:vs.getD j Value.none = .ref b:=by simp [iz,b1]
  rw [← hkf i j p q ep eq] at hC;unfold kas_ask;rw [ga,gb];exact kat_lt (s:={ s with heap:=h' }) a2 a4 b2 b4 (ajG 0 a5 b5 (by simp) hC)
end
section
variable {X:Cx}
theorem aoD {pins:List (Addr×Obj)} {σ:St} {H:Hp} {s:Shared} (I:Inv X pins σ H s) {xs:List V} {us:List Value} (r:bV X.K H (rs.map aoC) xs) (rv:Vals xs us):a1P s.heap rs us:=by
 refine ⟨by rw [← rv.length,← r.length,bx],fun i row e=>?_⟩;obtain ⟨v,e1,rd⟩:=r.get (i:=i) (d:=aoC row) (by simp [e]);obtain ⟨u,e2,ru⟩:=rv.get e1;unfold aoC at rd;cases rd with
 | @tup b ys _ hb rbs eb =>
  cases ru;obtain ⟨its,⟨o,q1,q2,n,q3⟩,ia⟩:=a6Y I (ns:=row) (.tup hb rbs eb);exact ⟨b,o,n,its,e2,q1,q2,q3,ia⟩
theorem aoE:cJ X (.builtin "sorted") pW:=by
 intro pins s σ H xs vs us G R Q I rx rv g q k;unfold pW at q;split at q
 ·rename_i a;split at q
  ·rename_i ds e1;obtain ⟨rs,kf,rfl,hne,hkf,hd,abO,h⟩:=q;cases rx with
   | cons r1 rr =>
   cases rr;cases r1;cases rv with
   | cons rv rr =>
   cases rr;cases rv;obtain ⟨zs,hq,r⟩:=bN g e1;obtain ⟨its,vi,pl,_⟩:=I.list hq;have hp:=aoD I r vi;have l1:=hp.1;have l2:zs.length=rs.length:=by rw [← r.length,bx]
   refine afZ (kf:=kf) pl.isList (by omega) (fun i j hi hj e=>hd i j (by omega) (by omega) e) (fun l2 h' kp=>ajH hkf hne l2 ⟨hp.1,fun i p ei=>?_⟩) fun q P u=>?_
   ·obtain ⟨a,o,n,its,a1,a2,a3⟩:=hp.2 i p ei;exact ⟨a,o,n,its,a1,kp _ _ a2,a3⟩
   ·have big:1000 < sizeLine:=by decide
    rw [l1] at P u;have hin:∀ i∈q.toList,i < rs.length:=fun i hi=>ji.mp (P.perm.mem_iff.mp hi);have fr:H (s.heap.objs.size+1)=none:=I.hok.fresh (Nat.le_succ _);have sn:Same H (upd H (s.heap.objs.size+1) (.lst (q.toList.map fun i=>zs.getD i .non))):=bC fr;obtain ⟨c,hc⟩:=av1 (h:=s.heap) (vs:=its) (out:=(q.toList.map fun i=>its.getD i Value.none).toArray)
    have J:Inv X pins σ (upd H (s.heap.objs.size+1) (.lst (q.toList.map fun i=>zs.getD i .non))) { s with heap:=sortedAll s.heap its (q.toList.map fun i=>its.getD i Value.none).toArray } :=
     I.laid (t':=s.toks) (fun b o e=>ao0 e) (Nat.le_succ _) ⟨by rw [bx,pq,P.size];omega,_,c,z9 vi fun i hi=>by rw [l2];exact hin i hi,hc⟩
    exact ⟨.ref (s.heap.objs.size+1),_,J,rfl,k _ _ (.ref _) _ (.same sn) (.ref _) (g.put (u := .lst _) fr ⟨_,aH,(zB r fun i hi=>by rw [bx];exact hin i hi).mono (.same sn)⟩) (h q P u _ (lR g fr (uV J)))⟩
  ·exact q.elim
 ·exact q.elim
end
end
variable {Q:Array Nat->Shared->Prop}{p:Array Nat}{m:Nat}
section
open PySem.W
section
variable {cmp:Nat->Nat->(Bool->Shared->Prop)->Shared->Prop} {I:Shared->Prop} {kf:Nat->Int}
def oW (kf:Nat->Int) (p:Array Nat) (k:Nat):Prop:=∀ i j,i<=j->j < k->ky kf p j<=ky kf p i
theorem adP {i j k:Nat} (hj:j<=p.size):ky kf (kas_rev p i j) k=if i<=k/\k < j then ky kf p (i+j - 1 - k) else ky kf p k:=by
 unfold ky kas_rev;have e:=getElem?_mirror_all (xs:=p) (i:=i) hj k;split at e
 ·rw [if_pos ‹_›,eY e]
 ·rw [if_neg ‹_›,eY e]
theorem Pm.abN {n i:Nat} (h:Pm n p):Pm n (kas_rev p i m):=⟨by rw [kas_rev_size];exact h.size,((mirror_perm p i m _).toList).trans h.perm⟩
def Alike (kf:Nat->Int) (p:Array Nat) (m q:Nat):Prop:=q+1<=m/\∀ i,m - (q+1)<=i->i < m->ky kf p i=ky kf p (m - 1)
theorem Alike.rev {q:Nat} (hm:m<=p.size) (h:Alike kf p m q) (k:Nat):ky kf (kas_rev p (m - (q+1)) m) k=ky kf p k:=by
 obtain ⟨h1,h2⟩:=h;rw [adP hm];split
 ·rw [h2 _ (by omega) (by omega),h2 k (by omega) (by omega)]
 ·rfl
theorem oW.same {q:Array Nat} (h:oW kf p m) (e:∀ k,ky kf q k=ky kf p k):oW kf q m:=fun i j a b=>by rw [e,e];exact h i j a b
theorem oW.up (hm:m<=p.size) (h:oW kf p m):Up kf (kas_rev p 0 m) m:=fun i j a b=>by
 rw [a6S hm (by omega),a6S hm b];exact h _ _ (by omega) (by omega)
theorem oW.more {a:Nat} (u:oW kf p a) (h1:1<=a) (c:ky kf p a<=ky kf p (a - 1)):oW kf p (a+1):=fun x y hxy hy=>by
 by_cases cy:y < a
 ·exact u x y hxy cy
 ·obtain rfl:y=a:=by omega
  by_cases cx:x=y
  ·subst cx;exact mq _
  ·exact jo c (u x (y - 1) (by omega) (by omega))
theorem a1Q {n:Nat} (hc:Asks cmp I kf n) {Q:Array Nat×Nat×Nat->Shared->Prop}:∀ (f a q:Nat) (p:Array Nat) (s:Shared),Pm n p->2<=a->a+f<=n->oW kf p a->Alike kf p a q->I s->(∀ p' m q' s',Pm n p'->a<=m->m<=a+f->oW kf p' m->Alike kf p' m q'->I s'->Q (p',m,q') s')->(kas_desc f p a q).kasWp cmp Q s
 | 0,a,q,p,s,P,h1,h2,u,al,i,h=>h p a q s P (au _) (au _) u al i
 | f+1,a,q,p,s,P,h1,h2,u,al,i,h=>by
  show cmp (p.getD a 0) (p.getD (a - 1) 0) _ s;refine hc _ _ _ s (P.lt (by omega)) (P.lt (by omega)) i fun s' i'=>?_;have z:=P.size;have one:∀ p:Array Nat,Alike kf p (a+1) 0:=fun p=>⟨by omega,fun i a1 a2=>by rw [show i=a+1 - 1 by omega]⟩;by_cases c:kf (p.getD a 0) < kf (p.getD (a - 1) 0)
  ·rw [decide_eq_true c];dsimp only;rw [if_pos rfl];have u2:oW kf p (a+1):=u.more (by omega) (ni c);have go:∀ p',Pm n p'->(∀ k,ky kf p' k=ky kf p k)->(kas_desc f p' (a+1) 0).kasWp cmp Q s':=fun p' P' e=>a1Q hc f (a+1) 0 p' s' P' (by omega) (by omega) (u2.same e) (one p') i' fun p'' m q' s2 P'' l1 l2 d2 a2 i2=>h p'' m q' s2 P'' (by omega) (by omega) d2 a2 i2;by_cases cq:q > 0
   ·rw [if_pos cq];exact go _ P.abN (al.rev (by omega))
   ·rw [if_neg cq];exact go p P fun _=>rfl
  ·rw [decide_eq_false c];dsimp only;rw [if_neg (by decide)];show cmp (p.getD (a - 1) 0) (p.getD a 0) _ s';refine hc _ _ _ s' (P.lt (by omega)) (P.lt (by omega)) i' fun s2 i2=>?_;by_cases d:kf (p.getD (a - 1) 0) < kf (p.getD a 0)
   ·rw [decide_eq_true d];dsimp only;rw [if_pos rfl];exact h p a q s2 P (au _) (by omega) u al i2
   ·rw [decide_eq_false d];dsimp only;rw [if_neg (by decide)];have e:ky kf p a=ky kf p (a - 1):=by unfold ky;omega
    refine a1Q hc f (a+1) (q+1) p s2 P (by omega) (by omega) (u.more (by omega) (Int.le_of_eq e)) ⟨by have:=al.1;omega,fun i a1 a2=>?_⟩ i2 fun p'' m q' s3 P'' l1 l2 d2 a2 i3=>h p'' m q' s3 P'' (by omega) (by omega) d2 a2 i3;rw [show a+1 - 1=a by omega];by_cases y:i=a
    ·subst y;rfl
    ·rw [e];exact al.2 i (by omega) (by omega)
theorem ag0 {n:Nat} (hc:Asks cmp I kf n) (h2:2<=n) (P:Pm n p) {Q:Nat×Array Nat->Shared->Prop} {s:Shared} (i:I s) (h:∀ m q s',1<=m->m<=n->Pm n q->Up kf q m->I s'->Q (m,q) s'):(kas_count n p).kasWp cmp Q s:=by
 have part:∀ (m:Nat) (p:Array Nat) (s:Shared),1<=m->m < n->Pm n p->oW kf p (m+1)->I s->(kas_descPart m n p).kasWp cmp Q s:=by
  intro m p s m1 m2 P d i;unfold kas_descPart;rw [KasT.kasWp_bind];refine a1Q hc (n - (m+1)) (m+1) 0 p s P (by omega) (by omega) d ⟨by omega,fun i a1 a2=>by rw [show i=m+1 - 1 by omega]⟩ i fun p' k q' s' P' l1 l2 d' al i'=>?_;have z:=P'.size
  have go:∀ p2,Pm n p2->(∀ k,ky kf p2 k=ky kf p' k)->(kas_tail3 k n p2).kasWp cmp Q s':=fun p2 P2 e=>by
   unfold kas_tail3;rw [KasT.kasWp_bind];have z2:=P2.size;exact a1J hc P2.abN (n - k) k s' (by omega) (by omega) ((d'.same e).up (by omega)) i' fun x s3 q1 q2 u3 _ i3=>h x _ s3 (by omega) (by omega) P2.abN u3 i3
  dsimp only;by_cases cq:q' > 0
  ·rw [if_pos cq];exact go _ P'.abN (al.rev (by omega))
  ·rw [if_neg cq];exact go p' P' fun _=>rfl
 unfold kas_count;rw [KasT.kasWp_bind];refine a1J hc P (n - 1) 1 s (au _) (by omega) (fun x y hxy hy=>by have:x=y:=(by omega);subst this;exact mq _) i fun m s' l1 l2 u l3 i'=>?_;have z:=P.size;by_cases c:m=n
 ·subst c;rw [if_pos (by simp)];exact h m p s' l1 (by omega) P u i'
 ·rw [if_neg (by simpa using c)];have l3:=l3 (by omega);by_cases c1:m > 1
  ·rw [if_pos c1];show cmp (p.getD 0 0) (p.getD (m - 1) 0) _ s';refine hc _ _ _ s' (P.lt (by omega)) (P.lt (by omega)) i' fun s2 i2=>?_;by_cases d:kf (p.getD 0 0) < kf (p.getD (m - 1) 0)
   ·rw [decide_eq_true d];dsimp only;rw [if_pos rfl];exact h m p s2 l1 (by omega) P u i2
   ·rw [decide_eq_false d];dsimp only;rw [if_neg (by decide)]
    have al:∀ i,i < m->ky kf p i=ky kf p (m - 1):=fun i hi=>by
     have a1:=u 0 i (je _) hi;have a2:=u i (m - 1) (by omega) (by omega);have a3:ky kf p (m - 1)<=ky kf p 0:=by unfold ky;omega
     omega
    have e:∀ k,ky kf (kas_rev p 0 m) k=ky kf p k:=fun k=>by
     rw [adP (by omega)];split
     ·rw [al _ (by omega),al k (by omega)]
     ·rfl
    refine part m _ s2 l1 (by omega) P.abN (oW.same (p:=p) (fun x y a b=>?_) e) i2;by_cases cy:y < m
    ·rw [al x (by omega),al y cy];exact mq _
    ·obtain rfl:y=m:=by omega
     by_cases cx:x=y
     ·subst cx;exact mq _
     ·rw [al x (by omega)];exact ni l3
  ·rw [if_neg c1];obtain rfl:m=1:=by omega
   refine part 1 p s' l1 (by omega) P (fun x y a b=>?_) i';by_cases cx:x=y
   ·subst cx;exact mq _
   ·rw [show x=0 by omega,show y=1 by omega];exact ni l3
theorem ajI {n:Nat} (hc:Asks cmp I kf n) (h2:2<=n) {s:Shared} (i:I s) (h:∀ q s',Pm n q->Up kf q n->I s'->Q q s'):(kas_sort n).kasWp cmp Q s:=by
 unfold kas_sort;rw [KasT.kasWp_bind];refine ag0 hc h2 ⟨by simp,by simp⟩ i fun m q s' l1 l2 P u i'=>?_;dsimp only;by_cases c:m < n
 ·rw [if_pos c,show max m 1=m by omega];exact z8 hc (n - m) m q s' P l1 (by omega) u i' h
 ·rw [if_neg c];obtain rfl:m=n:=by omega
  exact h q s' P u i'
noncomputable def KasT.by {α:Type} (kf:Nat->Int):KasT α->α
 | .ret a=>a
 | .ask i j k=>KasT.by kf (k (decide (kf i < kf j)))
theorem ar0 {α:Type} {n:Nat} (hc:Asks cmp I kf n) {Q:α->Prop} {s0:Shared}:∀ (t:KasT α) {R:α->Shared->Prop} (s:Shared),t.kasWp (fun i j C s=>i < n/\j < n/\C (decide (kf i < kf j)) s) (fun a _=>Q a) s0->I s->(∀ s',Q (KasT.by kf t)->I s'->R (KasT.by kf t) s')->t.kasWp cmp R s
 | .ret a,R,s,h,i,r=>r s h i
 | .ask x y k,R,s,h,i,r=>by
  have h':x < n/\y < n/\(k (decide (kf x < kf y))).kasWp (fun i j C s=>i < n/\j < n/\C (decide (kf i < kf j)) s) (fun a _=>Q a) s0:=h;exact hc _ _ _ s h'.1 h'.2.1 i fun s' i'=>ar0 hc _ s' h'.2.2 i' r
noncomputable def iU (kf:Nat->Int) (n:Nat):Array Nat:=if n < 2 then (dh n).toArray else KasT.by kf (kas_sort n)
theorem ajJ {n:Nat} (hc:Asks cmp I kf n) (h2:2<=n) {s:Shared} (i:I s) (h:∀ s',Pm n (iU kf n)->Up kf (iU kf n) n->I s'->Q (iU kf n) s'):(kas_sort n).kasWp cmp Q s:=by
 have e:iU kf n=KasT.by kf (kas_sort n):=by unfold iU;rw [if_neg (by omega)]
 rw [e] at h;exact ar0 (Q:=fun q=>Pm n q/\Up kf q n) (s0:=s) hc (kas_sort n) s (ajI (I:=fun _=>True) (fun i j C s hi hj _ hC=>⟨hi,hj,hC s trivial⟩) h2 trivial fun q _ P u _=>⟨P,u⟩) i fun s' z i'=>h s' z.1 z.2 i'
end
end
end L2
namespace HT
open PySem PyProof.Rows
noncomputable def lexLe:List Int->List Int->Bool
 | [],_=>true
 | _ :: _,[]=>false
 | x :: xs,y :: ys=>if x=y then lexLe xs ys else decide (x < y)
theorem abP (x y:Int) (xs ys:List Int):lexLe (x :: xs) (y :: ys)=if x=y then lexLe xs ys else decide (x < y):=rfl
theorem a3Q:lexLe [] []=true:=rfl
theorem a1R (y:Int) (ys:List Int):lexLe [] (y :: ys)=true:=rfl
theorem a1S (x:Int) (xs:List Int):lexLe (x :: xs) []=false:=rfl
theorem ajK (A:Around) (s:Shared) (a:Int) (t:Tok) (c:Int) (u:Tok) (ne:a≠c) (prog:Program) (w:World) (E:Value->Shared->Prop) (Q:Value->Shared->Prop) (h:Q (.bool (decide (a < c))) s) :
  wpAny (model prog w) A (richCompare .LtE (.int a t) (.int c u)) Q E s:=by
 have e:decide (a < c)=decide (a<=c):=by rw [decide_eq_decide];omega
 rw [e] at h;exact (PyProof.Rows.le_int h:wpAny (model prog w) A (compareOp .LtE (.int a t) (.int c u)) Q E s)
section
open PySem.SeqAt
open PySem.AutoSeq1 (wpAny_loadPart')
open PySem.MeetsSeq PySem.MeetsSeq2 PySem.MeetsSeq3
theorem a3R (l b:Addr) (items items2:Array Value) (n n2:Nat) (dd dd2:Option Addr) (sl sl2:Array (Option Value)) (ns ms:List Int) (hi:IntsAre items.toList ns) (hj:IntsAre items2.toList ms) :
  Meets (Builtin.«tuple.__le__» ⟨[.ref l,.ref b],[]⟩)
   (fun _ R s=>s.heap.get? l=some { cls := .type "tuple",dict:=dd,data := .seq items n,slots:=sl }/\s.heap.get? b=some { cls := .type "tuple",dict:=dd2,data := .seq items2 n2,slots:=sl2 } /\
    R (.ok (.ret (.bool (lexLe ns ms)))) s) :=
 .of_wp fun prog w A R s h=>by
  obtain ⟨hp,g,d,tk,os⟩:=s;obtain ⟨hl,hb,h⟩:=h;have f2:=AutoSeq1.sub_tuple_tuple;have z1:items.size=ns.length:=by rw [← hi.length];simp
  have z2:items2.size=ms.length:=by rw [← hj.length];simp
  wp_walk using wpAny_loadPart' hl,wpAny_loadPart' hb,wpAny_forIn_list _ (fun rest b s'=>b.1=none/\s'=⟨hp,g,d,tk,os⟩/\∃ (vs ws:List Value) (ns' ms':List Int),rest=vs.zip ws /\
   IntsAre vs ns'/\IntsAre ws ms'/\ns'.length+items2.size=ms'.length+items.size/\R (.ok (.ret (.bool (lexLe ns' ms')))) ⟨hp,g,d,tk,os⟩) _
  case turn =>
   rintro ⟨y,x⟩ rest b s' ⟨hb',rfl,vs,ws,ns',ms',hz,hvi,hwi,hlen,hR⟩;cases hvi with
   | nil=>rw [List.zip_nil_left] at hz;cases hz
   | cons a t aF9 =>
    cases hwi with
    | nil=>rw [List.zip_nil_right] at hz;cases hz
    | cons c u aFA =>
     rw [List.zip_cons_cons] at hz;injection hz with hyx hrest;injection hyx with hy hx;subst hy hx;rw [abP] at hR;simp only [qg] at hlen;obtain ⟨e,he,hiff⟩:=ah7 A.in1 ⟨hp,g,d,tk,os⟩ a t c u;refine aj (he prog w _ _ ?_);cases e with
     | true =>
      rw [if_pos (hiff.mp rfl)] at hR
      wp_walk
      exact ⟨rfl,rfl,_,_,_,_,hrest,aF9,aFA,by omega,hR⟩
     | false =>
      rw [if_neg (fun q=>absurd (hiff.mpr q) jr)] at hR;have hri:=ajK A.in1 ⟨hp,g,d,tk,os⟩ a t c u (fun q=>absurd (hiff.mpr q) jr) prog w
      wp_walk using hri
      exact ⟨_,rfl,by simpa using hR⟩
  case fin =>
   rintro ⟨b1,b2⟩ s' ⟨hb',rfl,vs,ws,ns',ms',hz,hvi,hwi,hlen,hR⟩;simp only at hb';subst hb'
   have hv:lexLe ns' ms'=decide (items.size<=items2.size):=by
    cases hvi with
    | nil =>
     cases hwi with
     | nil =>
      simp only [List.length_nil] at hlen;rw [a3Q];exact (decide_eq_true (by omega)).symm
     | cons c u hw =>
      simp only [List.length_nil,qg] at hlen;rw [a1R];exact (decide_eq_true (by omega)).symm
    | cons a t hv =>
     cases hwi with
     | nil =>
      simp only [List.length_nil,qg] at hlen;rw [a1S];exact (decide_eq_false (by omega)).symm
     | cons c u hw =>
      rw [List.zip_cons_cons] at hz;cases hz
   rw [hv] at hR
   wp_walk
   exact ⟨_,rfl,by simpa [Builtin.Tuple.tupleCompareSizes] using hR⟩
  case h =>
   exact ⟨rfl,rfl,items.toList,items2.toList,ns,ms,rfl,hi,hj,by omega,h⟩
end
section
variable {prog:Program} {w:World} {A:Around} {E:Value->Shared->Prop} {s:Shared}
theorem abQ {l b:Addr} {items items2:Array Value} {ns ms:List Int} {Q:Value->Shared->Prop} (hl:IsTup s.heap l items) (hb:IsTup s.heap b items2) (hi:IntsAre items.toList ns) (hj:IntsAre items2.toList ms)
  (hu:A.units < cLine) (h:Q (.bool (lexLe ns ms)) s):wpAny (model prog w) A (compareOp .LtE (.ref l) (.ref b)) Q E s:=by
 obtain ⟨⟨cls,dd,data,sl⟩,ho,hc,n,hd⟩:=id hl;obtain ⟨⟨cls2,dd2,data2,sl2⟩,ho2,hc2,n2,hd2⟩:=id hb;simp only at hc hd hc2 hd2;subst hc hd hc2 hd2
 exact richCompare_meets_room (op := .LtE) ⟨_,ho,rfl⟩ ⟨_,ho2,rfl⟩ PySem.F.slot_tuple_le PySem.F.entry_tuple_le (PySem.F.args_tuple_le_2 _ _) (a3R l b items items2 n n2 dd dd2 sl sl2 ns ms hi hj)
  ⟨ho,ho2,show Value.bool (lexLe ns ms)≠Value.notImplemented/\Q (.bool (lexLe ns ms)) s from ⟨(fun x=>nomatch x),h⟩⟩ hu
end
end HT
namespace L2
open PySem PySem.Spec PyProof.Rows
section
section
variable {X:Cx}
noncomputable def abR:R3:=fun x y G R=>match x,y with
 | .int i,.int j=>R (.bl (decide (i<=j))) G
 | .tup xs,.tup ys=>∃ ns ms:List Int,xs=ns.map D.int/\ys=ms.map D.int/\R (.bl (HT.lexLe ns ms)) G
 | _,_=>False
theorem avI (hu:X.A.units+64 < cLine):mQ X (compareOp .LtE) (fun x y H Q=>∃ a b ns ms,x = .ref a/\y = .ref b/\RD X.K H (.tup (ns.map D.int)) (.ref a)/\RD X.K H (.tup (ms.map D.int)) (.ref b)/\Q (.bl (HT.lexLe ns ms)) H):=by
 intro pins s σ H x y v u Q I rx ry h;obtain ⟨a,b,ns,ms,rfl,rfl,h1,h2,q⟩:=h;cases rx;cases ry;obtain ⟨i1,p1,q1⟩:=a6Y I h1;obtain ⟨i2,p2,q2⟩:=a6Y I h2;exact HT.abQ p1 p2 q1 q2 (by omega) ⟨.bl _,H,I,rfl,q⟩
theorem aAY (hu:X.A.units+64 < cLine):mV X (compareOp .LtE) abR:=by
 refine ⟨_,ayO.or (avI hu),fun H x y vx vy G R Q rx ry gh h k=>?_⟩;cases rx with
 | int i =>
  cases ry with
  | int j=>exact .inl ⟨i,j,rfl,rfl,k _ H _ G (.refl H) (.bl _) gh h⟩
  | _=>exact False.elim h
 | @tup a xs ds ha ra ea =>
  cases ry with
  | @tup b ys es hb rb eb =>
   obtain ⟨ns,ms,rfl,rfl,h⟩:=h;exact .inr ⟨a,b,ns,ms,rfl,rfl,.tup ha ra ea,.tup hb rb eb,k _ H _ G (.refl H) (.bl _) gh h⟩
  | _=>exact False.elim h
 | _=>exact False.elim h
noncomputable def gU:R3:=fun x y G R=>match x,y with
 | .int i,.int j=>agY i j/\R (.int (i * j)) G
 | .ref l,.int k=>(match G l with
  | some (.lst xs)=>0<=k/\k < 2 ^ 63/\xs.length * k.toNat<=sizeLine/\∀ p,G p=none->R (.ref p) (aG G p (.lst (gq k.toNat xs).flatten))
  | _=>False)
 | _,_=>False
theorem adQ {K:Fg} {H:Hp} {ds:List D} {vs:List V} (r:bV K H ds vs):∀ k:Nat,bV K H (gq k ds).flatten (gq k vs).flatten
 | 0 => .nil
 | k+1=>by
  rw [tu,tu,vo,vo];exact r.append (adQ r k)
theorem avJ:a0W X (binaryOp .Mult) gU:=by
 refine ⟨_,asU.or atM,fun H x y vx vy G R Q rx ry gh h k=>?_⟩;cases rx with
 | int i =>
  cases ry with
  | int j=>exact .inl ⟨i,j,rfl,rfl,h.1,fun _=>k _ H _ G (.refl H) (.int _) gh h.2⟩
  | _=>exact False.elim h
 | ref l =>
  cases ry with
  | int j =>
   have h':(match G l with
    | some (.lst xs)=>0<=j/\j < 2 ^ 63/\xs.length * j.toNat<=sizeLine/\∀ p,G p=none->R (.ref p) (aG G p (.lst (gq j.toNat xs).flatten))
    | _=>False):=h
   split at h'
   ·rename_i xs e1;obtain ⟨xv,f1,r1⟩:=gh l _ e1;refine .inr ⟨l,j,xv,rfl,rfl,f1,by omega,h'.2.1,by rw [← r1.length];exact h'.2.2.1,fun p hp kf=>?_⟩;have sn:Same H (upd H p (.lst (gq j.toNat xv).flatten)):=bC hp;exact k _ _ _ _ (.same sn) (.ref p) (gh.put (u := .lst (gq j.toNat xs).flatten) hp ⟨_,aH,(adQ r1 j.toNat).mono (.same sn)⟩) (h'.2.2.2 p (lR gh hp kf))
   ·exact h'.elim
  | _=>exact False.elim h
 | _=>exact False.elim h
end
end
section
section
variable {X:Cx} {pos:Pos}
noncomputable def aFB:V->V->Hp->VK->Prop:=fun x y H Q=>∃ p xs i v,x = .ref p/\y = .int i/\H p=some (.lst xs)/\0<=i/\xs[i.toNat]?=some v/\Q v H
theorem ag1:ayI X aFB:=by
 intro pins s σ H x y v u Q I rx ry h;obtain ⟨p,xs,i,z,rfl,rfl,hq,h0,he,q⟩:=h;cases rx;obtain ⟨t,rfl⟩:=ry;obtain ⟨its,r,pl,hz⟩:=I.list (rF.of hq);obtain ⟨w,ew,mU⟩:=r.get he;have hl:=r.length;have hn:=vJ;have hi:i.toNat < xs.length:=(cj.mp he).1;exact wpAny_getItem_list pl.isList h0 (by omega) (by simpa using ew) ⟨z,H,I,mU,q⟩
def ajL (F:cH) (f:Int->Int->Int) (te:cF) (ρ:aN) (G2:Gp) (p:Addr) (xs:List D) (j:Nat):Prop:=onN (xs.getD j .non) fun a=>te ρ G2 fun y G3=>onN y fun b=>G3 p=some (.lst xs)/\F.nx ρ (aG G3 p (.lst (xs.set j (.int (f a b)))))
noncomputable def a74 (to ti te:cF) (f:Int->Int->Int):bH:=fun F ρ G=>to ρ G fun o G1=>ti ρ G1 fun i G2=>match o,i with
 | .ref p,.int k=>(match G2 p with
  | some (.lst xs)=>0<=k/\k < xs.length/\ajL F f te ρ G2 p xs k.toNat
  | _=>False)
 | _,_=>False
theorem ajM {o i e:Expr} {to ti te:cF} {op:Operator} {f:Int->Int->Int} {tpos:Pos} (ho:cM X o to) (hi:cM X i ti) (he:cM X e te) (hp:PIp X op (ipI f))
  (ha:∀ ov iv new,augStore i ov iv new=(do holding [new,ov,iv] (setItem ov iv new);release [new,ov,iv] [];pure .next):=by intros;rfl):PS3 X (.AugAssign (.Subscript o i tpos) op e pos) (a74 to ti te f) :=
 PS.imp (amE ho hi ag1 he hp set_list ha) fun F σ H h=>by
 obtain ⟨ρ,G,E,s,g,q,d⟩:=h;refine ⟨ρ,G,_,s,g,q,fun ov H1 o' G1 t1 ro g1 q1=>?_⟩;refine ⟨ρ,G1,_,s.mono t1,g1,q1,fun iv H2 i' G2 t2 ri g2 q2=>?_⟩;cases ro with
 | ref p =>
  cases ri with
  | int k =>
   have q2':(match G2 p with
    | some (.lst xs)=>0<=k/\k < xs.length/\ajL E f te ρ G2 p xs k.toNat
    | _=>False):=q2
   split at q2'
   ·rename_i xs e1;obtain ⟨k0,k1,q2'⟩:=q2';obtain ⟨ys,f1,r1⟩:=g2 p _ e1;have jl:k.toNat < xs.length:=by omega
    obtain ⟨v,ev,rv⟩:=r1.get (dj jl);have e3:xs.getD k.toNat .non=xs[k.toNat]:=by simp [iz,jl]
    unfold ajL at q2';rw [e3] at q2';refine ⟨p,ys,k,v,rfl,rfl,f1,k0,ev,?_⟩;generalize xs[k.toNat]=x0 at rv q2';cases rv with
    | int a =>
     refine ⟨ρ,G2,_,s.mono (t1.trans t2),g2,q2',fun yv H3 y G3 t3 ry g3 q3=>?_⟩;cases ry with
     | int b =>
      obtain ⟨e4,q3⟩:=q3;obtain ⟨zs,f3,r3⟩:=g3 p _ e4;have lz:zs.length=xs.length:=r3.length.symm;refine ⟨a,b,rfl,rfl,p,zs,k,k.toNat,rfl,rfl,f3,?_,?_⟩
      ·unfold ixN;rw [lz];rw [if_pos k0,if_pos k1]
      ·have tt:Ts H3 (upd H3 p (.lst (zs.set k.toNat (.int (f a b))))) := .turn f3 (fun _ z=>nomatch z) (fun _ _ z=>nomatch z);exact d.nx ρ _ σ _ (s.mono (((t1.trans t2).trans t3).trans tt)) (g3.turn (u := .lst (xs.set k.toNat (.int (f a b)))) tt ⟨_,aH,((r3.set (.int _) k.toNat).mono tt)⟩) q3
     | _=>exact False.elim q3
    | _=>exact False.elim q2'
   ·exact q2'.elim
  | _=>exact False.elim q2
 | _=>cases ri <;> exact False.elim q2
end
end
variable {xs:List V}{us:List Value}
section
open PySem.W
section
variable {prog:Program} {w:World} {A:Around} {E:Value->Shared->Prop} {s:Shared}
theorem a3S {r:Addr} {a b c:Int} {t u v:Tok} {n:Nat} {Q:List Value->Shared->Prop} (hh:A.handled=none) (hr:IsRange s.heap r a b c t u v) (hsmall:Builtin.Range.small a b c=true) (hn:Builtin.Range.rangeSize a b c=n) (hlen:n<=2 ^ 24)
  (hQ:∀ h' tk acc,(∀ b o,s.heap.get? b=some o->h'.get? b=some o)->ItemsOf (fun i v=>∃ t,v = .int (a+i * c) t) acc n->Q acc.toList { s with heap:=h',toks:=tk }):wpAny (model prog w) A (collect (.ref r)) Q E s:=by
 unfold collect;refine aj (wpAny_runValue (codeAny_builtin entry_proto_collect' ?_));show wpAny _ _ (do again (.builtin "list.__iadd__" ⟨[← newList [],.ref r],[]⟩)) _ _ s;refine aj (wpAny_newList (bh ⟨Code.quiet_builtin _ (by decide +kernel),codeAny_builtin entry_list_iadd' ?_⟩));rw [Around.under_plainId F.plain_list_iadd _];show wpAny _ A.in1 (Builtin.List.listExtendWith (.ref s.heap.objs.size) (.ref r) (.ref s.heap.objs.size)) _ _ { s with heap:=s.heap.push (seqObj "list" #[] 0) }
 refine wpAny_extend_range (A:=A) (R:=fun r s'=>match r with
  | .ok (.ret v)=>wpAny (model prog w) A (match v with
    | .ref a=>do
     let o ← load a
     match o.data with
     | .seq xs _=>pure xs.toList
     | _=>unsupported "internal:collect"
    | _=>unsupported "internal:collect") Q E s'
  | .ok _=>False
  | .error e=>E e s') (s:={ s with heap:=s.heap.push (seqObj "list" #[] 0) }) hh (ao _ hr) hsmall hn hlen s.heap.objs.size _ 0 (dw _ rfl) fun h' tk acc c' hk hS hacc=>?_
 show wpAny (model prog w) A (do
   let o ← load s.heap.objs.size
   match o.data with
   | .seq xs _=>pure xs.toList
   | _=>unsupported "internal:collect") Q E { s with heap:=h',toks:=tk }
 refine aj (wpAny_load hS ?_);exact bh (hQ h' tk acc (fun b o e=>hk b o (gk (cg e)) (ao _ e)) hacc)
end
section
variable {X:Cx} {prog:Program} {w:World} {A:Around} {s:Shared} {H:Hp}
theorem aoG {kz:List Int} (r:bV X.K H (kz.map D.int) xs) (rv:Vals xs us) (l2:2<=us.length) :
  ∃ κ,(∀ Q:SortKind->Shared->Prop,Q κ s->wpAny (model prog w) A (keyKind' us.toArray) Q (fun _ _=>False) s)/\∀ i j (C:Bool->Shared->Prop),i < us.length->j < us.length->C (decide ((fun i=>kz.getD i 0) i < (fun i=>kz.getD i 0) j)) s->kas_ask prog w A κ us i j C s:=by
 have e:xs=kz.map V.int:=zA r;subst e;have ia:=intsAre_of rv;refine ⟨oneType',fun Q h=>?_,fun i j C hi hj h=>?_⟩
 ·rw [ksk_kind (keys:=us.toArray) (kz:=kz) (by simpa using ia) (by simpa using l2)];exact bh h
 ·have get:∀ i,i < us.length->∃ t,us.getD i Value.none = .int (kz.getD i 0) t:=fun i hi=>by
   have lz:i < kz.length:=by rw [← rv.length] at hi;simpa using hi
   obtain ⟨u,e2,t,ru⟩:=rv.get (i:=i) (x := .int kz[i]) (by simp [lz]);exact ⟨t,by simp [iz,e2,ru,lz]⟩
  obtain ⟨t,e1⟩:=get i hi;obtain ⟨t',e2⟩:=get j hj;unfold kas_ask;rw [e1,e2,keyLt'_oneType];exact oneLt_int h
end
def zG (ds ks:List D) (G:Gp) (R:dX):Prop:=∃ kz:List Int,ks=kz.map D.int/\(Pm ds.length (iU (fun i=>kz.getD i 0) ds.length)->Up (fun i=>kz.getD i 0) (iU (fun i=>kz.getD i 0) ds.length) ds.length->∀ r,G r=none->R (.ref r) (aG G r (.lst ((iU (fun i=>kz.getD i 0) ds.length).toList.map fun i=>ds.getD i .non))))
section
variable {X:Cx} {pins:List (Addr×Obj)} {σ:St} {H:Hp} {s:Shared} {qt:Bool} {k ix:Nat} {c:oV} {sp:iT} {f c' cc:Addr} {vc:V} {dx:D}
theorem a9L (LO:sO qt X.prog X.w X.K X.mg X.base k c sp) (hr:cR qt k X.A.in1.in1) (hu:X.A.units+64 < cLine) (I:Inv X pins σ H s) {G:Gp} (g:HR X.K H G) (la:zP X c f c' cc H) (hcc:X.env.cells.lookup c.x=some cc) (hN:X.N[ix]?=some c.x) (hx:X.env.scope.names.lookup c.x=some .cell) (hv:σ[ix]?=some (some vc)) (rdc:RD X.K H dx vc) {ds:List D} (rd:bV X.K H ds xs) (rv:Vals xs us) {a:Addr} {n:Nat} (ho:s.heap.get? a=some (seqObj "list" us.toArray n)) (fa:j8 X pins H a) (h64:ds.length < 64) {R:dX} {Q:VK} (hk:sS sp dx (fun ks G2=>zG ds ks G2 R) ds [] G)
  (kk:∀ v H' d G',Ts H H'->RD X.K H' d v->HR X.K H' G'->R d G'->Q v H') {P:PySem.Fin->Shared->Prop} {E:Value->Shared->Prop} (hP:∀ s',EP X pins σ Q (.ref a) s'->P (.done (.ret .none)) s') :
  wpAny (model X.prog X.w) X.A.in1.in1 (ksk_tree a (.ref f) false) P E s:=by
 have big:1000 < sizeLine:=by decide
 have lx:xs.length=ds.length:=rd.length.symm;have lu:us.length=ds.length:=by rw [← rv.length,lx]
 have la0:a < s.heap.objs.size:=cg ho;unfold ksk_tree;refine aj (listItems_at ho rfl ?_);refine aj (listUpdate_at ho rfl ?_ (by rw [aq];omega) (je _));obtain ⟨e1,ho1⟩:∃ e1,(s.heap.update a (Obj.mapSeq fun _=>(#[]:Array Value))).get? a=some (seqObj "list" #[] e1):=⟨_,get?_update_seq ho fun _=>#[]⟩;refine aj (seqEpoch_at ho1 rfl ?_);refine aj (wpAny_newTuple ?_ (by show us.length<=_;omega));refine aj (wpAny_newList ?_ (je _));refine wpAny_holding ?_;have s0:=nu.update s.heap a (Obj.mapSeq fun _=>(#[]:Array Value));have hkS:((s.heap.update a (Obj.mapSeq fun _=>(#[]:Array Value))).push (seqObj "tuple" us.toArray 0)).objs.size=s.heap.objs.size+1:=by rw [size_push',Heap.size_update]
 have kp:∀ b o,b ∉ [a]->s.heap.get? b=some o->(((s.heap.update a (Obj.mapSeq fun _=>(#[]:Array Value))).push (seqObj "tuple" us.toArray 0)).push (seqObj "list" #[] 0)).get? b=some o:=fun b o hb e=>ao _ (ao _ ((s0.2 b (by simpa using hb)).trans e));have okS:(((s.heap.update a (Obj.mapSeq fun _=>(#[]:Array Value))).push (seqObj "tuple" us.toArray 0)).push (seqObj "list" #[] 0)).get? ((s.heap.update a (Obj.mapSeq fun _=>(#[]:Array Value))).push (seqObj "tuple" us.toArray 0)).objs.size=some (seqObj "list" #[] 0):=dw _ rfl;have oa5:(((s.heap.update a (Obj.mapSeq fun _=>(#[]:Array Value))).push (seqObj "tuple" us.toArray 0)).push (seqObj "list" #[] 0)).get? a=some (seqObj "list" #[] e1):=ao _ (ao _ ho1);generalize eh:((s.heap.update a (Obj.mapSeq fun _=>(#[]:Array Value))).push (seqObj "tuple" us.toArray 0)).push (seqObj "list" #[] 0)=h5 at *;generalize ek:((s.heap.update a (Obj.mapSeq fun _=>(#[]:Array Value))).push (seqObj "tuple" us.toArray 0)).objs.size=kS at *;have I5:Inv X pins σ H { s with heap:=h5,toks:=s.toks }:=I.a6R (ch:=[a]) kp (fun b hb=>by simp at hb;subst hb;exact fa);have fk:j8 X pins H kS:=I.yL (by rw [hkS];exact Nat.le_succ _) (I.hok.fresh (by rw [hkS];exact Nat.le_succ _));have hka:kS≠a:=by rw [hkS];exact yq (vm la0)
 unfold ksk_rest;refine aj (wpAny_rule ?_);rw [List.forIn_toArray];refine aj (ksk_fold (fun i s'=>∃ ks,ks.length=i/\KSt X pins σ H c f c' cc kS a e1 ks (fun G'=>sS sp dx (fun ks G2=>zG ds ks G2 R) (ds.drop i) ks G') s') us 0 { s with heap:=h5 } ⟨[],rfl,⟨H,G,[],[],0,I5,g,.refl H,la,fk,fa,.nil,.nil,okS,oa5,hk⟩⟩ ?step ?done)
 case step =>
  rintro j x s' hxj ⟨ks,hkl,⟨H',G',kvs,kus,e,J,g',ts,la',fk',fa',rk,vk,ok,oa,q⟩⟩;simp only [jk] at hkl q ⊢;obtain ⟨d,x',ed,rdd,ru⟩:=Vals.a8V rd rv hxj;have hj:j < ds.length:=(cj.mp ed).1
  have edr:ds.drop j=d :: ds.drop (j+1):=by
   rw [uh hj,(cj.mp ed).2]
  rw [edr] at q;have lk:kus.length=ks.length:=by rw [← vk.length,← rk.length]
  refine aj (wpAny_attempt (wpAny_mono (aiY LO hr J g' la' hcc hN hx hv (rdc.mono ts) ru (rdd.mono ts) q) (fun ku s'' he=>?_) fun _ _ hF=>hF.elim));obtain ⟨kv,H2,kd,G2,J2,un,rku,rkd,g2,q2⟩:=he
  try dsimp only
  have ok2:=un.keep kS _ ok fk'.1 (fk'.nfr J) (by simp);have oa2:=un.keep a _ oa fa'.1 (fa'.nfr J) (by simp);obtain ⟨c2,hc2⟩:∃ c2,(s''.heap.update kS (Obj.mapSeq (·.push ku))).get? kS=some (seqObj "list" (kus.toArray.push ku) c2):=⟨_,get?_update_seq ok2 (·.push ku)⟩;have sb:=nu.update s''.heap kS (Obj.mapSeq (·.push ku));refine aj (listUpdate_at ok2 rfl ?_ (by rw [aq];omega) (by rw [Array.size_push,aq];omega));have ts2:Ts H' H2:=⟨un.tups,un.eZ⟩;have J3:=J2.a6R (t':=s''.toks) (ch:=[kS]) (h':=s''.heap.update kS (Obj.mapSeq (·.push ku))) (fun b u hb e=>(sb.2 b (by simpa using hb)).trans e) (fun b hb=>by simp at hb;subst hb;exact fk'.un ok un);exact bh ⟨rfl,ks++[kd],by simp [hkl],⟨H2,G2,kvs++[kv],kus++[ku],c2,J3,g2,ts.trans ts2,la'.un un,fk'.un ok un,fa'.un oa un,bV.snoc rkd (rk.mono ts2),Vals.snoc rku vk,by simpa using hc2,(sb.2 a hka.symm).trans oa2,q2⟩⟩
 case done =>
  rintro s' ⟨ks,hkl,⟨H',G',kvs,kus,e,J,g',ts,la',fk',fa',rk,vk,ok,oa,q⟩⟩;rw [List.drop_of_length_le (by omega)] at q;obtain ⟨kz,rfl,hR⟩:=q;have lz:kz.length=ds.length:=by simpa using hkl.trans (by omega)
  obtain ⟨kf,ekf⟩:∃ kf:Nat->Int,kf=fun i=>kz.getD i 0:=⟨_,rfl⟩;rw [← ekf] at hR;have lk:kus.length=us.length:=by rw [← vk.length,← rk.length];omega
  refine aj (listItems_at ok rfl ?_);unfold ksk_end;simp only [fj,if_false]
  have fin:∀ (st:SortSt) (q:Array Nat),q=iU kf us.length->Pm us.length q->Up kf q us.length->(arrOf st).map (·.2)=(q.toList.map fun i=>us.getD i Value.none).toArray->failedOf st=none->wpAny (model X.prog X.w) X.A.in1.in1 (ksk_tail a false e1 (.ref kS) st) P E s':=by
   intro st q eq PM U har hf;unfold ksk_tail;simp only [fj,if_false];refine aj (listUpdate_at ok rfl ?_ (by rw [aq];omega) (je _));refine aj (wpAny_letGo ?_);have s1:=nu.update s'.heap kS (Obj.mapSeq fun _=>(#[]:Array Value));have na1:(s'.heap.update kS (Obj.mapSeq fun _=>(#[]:Array Value))).get? a=some (seqObj "list" #[] e1):=(s1.2 a hka.symm).trans oa;refine aj (seqEpoch_at na1 rfl ?_);rw [har];refine aj (listUpdate_at na1 rfl ?_ (je _) (by rw [aq,bx,pq,PM.size];omega));rw [hf];simp only [bne_self_eq_false,fj,if_false];have s2:=nu.update (s'.heap.update kS (Obj.mapSeq fun _=>(#[]:Array Value))) a (Obj.mapSeq fun _=>(q.toList.map fun i=>us.getD i Value.none).toArray);obtain ⟨c3,hc3⟩:∃ c3,((s'.heap.update kS (Obj.mapSeq fun _=>(#[]:Array Value))).update a (Obj.mapSeq fun _=>(q.toList.map fun i=>us.getD i Value.none).toArray)).get? a=some (seqObj "list" (q.toList.map fun i=>us.getD i Value.none).toArray c3):=⟨_,get?_update_seq na1 fun _=>(q.toList.map fun i=>us.getD i Value.none).toArray⟩;have hin:∀ i∈q.toList,i < ds.length:=fun i hi=>by rw [← lu];exact ji.mp (PM.perm.mem_iff.mp hi)
   have fr:H' a=none:=fa'.1;have sn:Same H' (upd H' a (.lst (q.toList.map fun i=>xs.getD i .non))):=bC fr;refine bh (hP _ ?_)
   have Jf:=J.aiX (t':=s'.toks) (h':=(s'.heap.update kS (Obj.mapSeq fun _=>(#[]:Array Value))).update a (Obj.mapSeq fun _=>(q.toList.map fun i=>us.getD i Value.none).toArray)) (ch:=[kS,a]) (a:=a) (o := .lst (q.toList.map fun i=>xs.getD i .non)) (fun b u hb e=>by
    simp only [jc,zj,or_false,not_or] at hb;exact (s2.2 b hb.2).trans ((s1.2 b hb.1).trans e)) (fun b hb=>by
    simp only [jc,zj,or_false] at hb;rcases hb with rfl | rfl
    ·exact fk'
    ·exact fa') (by simp) ⟨by rw [bx,pq,PM.size];omega,_,c3,z9 rv fun i hi=>by rw [lx];exact hin i hi,hc3⟩
   rw [lu] at PM U;exact ⟨.ref a,_,Jf,rfl,kk _ _ (.ref a) _ (ts.trans (.same sn)) (.ref a) (g'.put (u := .lst _) fr ⟨_,aH,(zB rd hin).mono (ts.trans (.same sn))⟩) (by rw [lu] at eq;subst eq;exact hR PM U a (lR g' fr (uV Jf)))⟩
  by_cases c2:us.toArray.size < 2
  ·rw [if_pos c2,if_pos c2];refine aj (bh ?_);rw [StateT.run_pure];refine aj (bh ?_);dsimp only;have c3:us.length < 2:=by simpa using c2
   refine fin _ (dh us.length).toArray (by unfold iU;rw [if_pos c3]) ⟨by rw [aq,List.length_range],.refl _⟩ (fun i j hij hj=>by have:i=j:=(by omega);subst this;exact mq _) ?_ rfl;show (kus.toArray.zip us.toArray).map (·.2)=_
   have e1:(kus.toArray.zip us.toArray).map (·.2)=us.toArray:=by
    apply Array.ext
    ·simp;omega
    ·intro i h1 h2;simp
   rw [e1]
   have e2:(dh us.length).toArray.toList.map (fun i=>us.getD i Value.none)=us:=by
    apply ux (by simp);intro i h1 h2;simp [h2]
   rw [e2]
  ·rw [if_neg c2,if_neg c2];have l2:2<=us.length:=by rw [aq] at c2;omega
   obtain ⟨κ,k1,k2⟩:=aoG (X:=X) (prog:=X.prog) (w:=X.w) (A:=X.A.in1.in1) (s:=s') rk vk (by omega);rw [← ekf] at k2;refine aj (wpAny_mono (k1 (fun κ' s''=>κ'=κ/\s''=s') ⟨rfl,rfl⟩) (fun κ' s'' ⟨q1,q2⟩=>?_) fun _ _ z=>z.elim);subst q1;subst q2
   refine aj (wpAny_mono (kat_run (vs:=us) (Q:=fun st' s3=>s3=s''/\failedOf st'=none/\∃ q,q=iU kf us.length/\Pm us.length q/\Up kf q us.length/\arrOf st'=q.map (kas_item (kus.toArray.zip us.toArray)))
    (G:=fun q s3=>s3=s''/\q=iU kf us.length/\Pm us.length q/\Up kf q us.length) lk l2 (by omega) (fun p st' s3 a1 a2 a3 a4=>⟨a4.1,a3,p,a4.2.1,a4.2.2.1,a4.2.2.2,a2⟩)
    (ajJ (I:=fun s3=>s3=s'') (fun i j C s3 hi hj es hC=>by subst es;exact k2 i j C (by omega) (by omega) (hC _ rfl)) l2 rfl fun s3 P u es=>⟨es,rfl,P,u⟩)) ?_ fun _ _ e=>e)
   rintro ⟨⟨⟩,st'⟩ s3 ⟨es,hf,q,eq,PM,u,har⟩;subst es;dsimp only;exact fin st' q eq PM u (kat_snds lk har) hf
end
theorem abS {n:Nat}:∀ {l:List Value} {k:Nat},l.length=n->(∀ (i:Nat) (u:Value),l[i]?=some u->∃ t,u=Value.int ((k:Int)+(i:Int)) t)->Vals ((List.range' k n).map fun i:Nat=>V.int (i:Int)) l:=by
 induction n with
 | zero=>intro l k hl _;cases l with
  | nil=>exact .nil
  | cons _ _=>simp at hl
 | succ n ih=>intro l k hl h;cases l with
  | nil=>simp at hl
  | cons u l =>
   rw [List.range'_succ];obtain ⟨t,e⟩:=h 0 u rfl;refine .cons ⟨t,by rw [e];simp⟩ (ih (k:=k+1) (by simpa using hl) fun i u' e'=>?_);obtain ⟨t,e⟩:=h (i+1) u' (by simpa using e');exact ⟨t,by rw [e];congr 1;push_cast;omega⟩
section
variable {X:Cx} {qt:Bool} {k ix:Nat} {c:oV} {sp:iT} {T cC cc:Addr} {e:Expr} {te:cF} {p pos p2 pos2 kp:Pos}
noncomputable def vV (n:Nat):List D:=(dh n).map fun i:Nat=>D.int (i:Int)
noncomputable def a75 (te:cF) (T:Addr) (c:oV) (ix:Nat) (sp:iT):cF:=fun ρ G R=>te ρ G fun x G1=>∃ (n:Nat) (dx:D),x = .int n/\n < 64/\at3 ρ ix=some dx/\G1 T=some (.tab c.qual c.pos)/\sS sp dx (fun ks G2=>zG (vV n) ks G2 R) (vV n) [] G1
theorem adR {K:Fg} {H:Hp}:∀ l:List Nat,bV K H (l.map fun i:Nat=>D.int (i:Int)) (l.map fun i:Nat=>V.int (i:Int))
 | [] => .nil
 | _ :: l => .cons (RD.int _) (adR l)
theorem aoH (LO:sO qt X.prog X.w X.K X.mg X.base k c sp) (hcm:X.calm=true) (hr:cR qt k X.A.in1.in1) (hu:X.A.units+64 < cLine) (hg:Gl X "sorted") (hm:X.mg "sorted" = none) (hg2:Gl X "range") (hm2:X.mg "range" = none) (hN:X.N[ix]?=some c.x) (hx:X.env.scope.names.lookup c.x=some .cell)
  (hcf:c.scope.names.filter (fun p=>p.2 == .free)=[(c.x,.free)]) (hC:CodeHd X.base cC T) (hbt:X.base.BuiltinsAt X.mg T) (hcode:X.env.code = .ref cC) (hd:defaultsOf c.params X.env=([],[])) (hq:X.env.qual ++ "<lambda>" = c.qual) (he:cM X e te)
  (hs:starEach [e] X.env=[(false,eval e X.env)]) (hs2:starEach [.Call (.Name "range" p2) [e] [] pos2] X.env=[(false,eval (.Call (.Name "range" p2) [e] [] pos2) X.env)]):cM X (.Call (.Name "sorted" p) [.Call (.Name "range" p2) [e] [] pos2] [⟨some "key",.Lambda c.params c.body c.scope c.pos,kp⟩] pos) (a75 te T c ix sp):=by
 intro pins s σ H Q I h _tk;obtain ⟨ρ,G,R,sr,g,q,kk⟩:=h;have big:1000 < sizeLine:=by decide
 obtain ⟨cc,hcc⟩:=I.ok.has c.x (.inl hx);refine wpAny_Call_Name_kw (rG I hg hm (u := .builtin "sorted") (by decide +kernel) ?_ (by decide) (by decide))
 have hA:=(rQ he a4L (by rw [hs];rfl)) pos2 pins s σ H (fun vs H1=>Ts H H1/\∃ (n:Nat) (dx:D) (G1:Gp),vs=[.int n]/\n < 64/\at3 ρ ix=some dx/\HR X.K H1 G1/\G1 T=some (.tab c.qual c.pos)/\sS sp dx (fun ks G2=>zG (vV n) ks G2 R) (vV n) [] G1) I ⟨ρ,G,(fun ds G1=>match ds with
  | [y]=>∃ (n:Nat) (dx:D),y = .int n/\n < 64/\at3 ρ ix=some dx/\G1 T=some (.tab c.qual c.pos)/\sS sp dx (fun ks G2=>zG (vV n) ks G2 R) (vV n) [] G1
  | _=>False),sr,g,q,fun vs H1 ds G1 t1 r1 g1 q1=>⟨t1,by
   cases r1 with
   | nil=>exact q1.elim
   | cons ry rn =>
    cases rn with
    | cons _ _=>exact q1.elim
    | nil =>
     obtain ⟨n,dx,rfl,a1,a2,a3,a4⟩:=q1;cases ry;exact ⟨n,dx,G1,rfl,a1,a2,g1,a3,a4⟩⟩⟩
 refine callWith_kw (?_:wpAny _ _ (spliced (backTo pos (starEach [.Call (.Name "range" p2) [e] [] pos2] X.env))) _ _ s) (by rw [hs2];rfl) (by rw [hs2];rfl) rfl rfl;rw [hs2];show wpAny _ _ (spliced [(false,eval (.Call (.Name "range" p2) [e] [] pos2) X.env)]) _ _ s;refine Calls.spliced_cons (Call_ (rG I hg2 hm2 boot_range (PyProof.Rows.callWith_type1 (cL hA fun us s1 ⟨vs,H1,I1,rr,t1,n,dx,G1,ev,h64,hix,g1,hGT,hk⟩=>?_) hs rfl)));subst ev;cases rr with
 | @cons _ uy _ _ ru rn =>
  cases rn;obtain ⟨t,rfl⟩:=ru;refine call_range_1 ?_;refine Calls.spliced_nil ?_;have hR0:(s1.heap.push { cls := .type "range",data := .fields #[.int 0 s1.toks,.int n t,.int 1 (s1.toks+1)] }).get? s1.heap.objs.size=some { cls := .type "range",data := .fields #[.int 0 s1.toks,.int n t,.int 1 (s1.toks+1)] }:=dw _ rfl;have J1:Inv X pins σ H1 { s1 with heap:=s1.heap.push { cls := .type "range",data := .fields #[.int 0 s1.toks,.int n t,.int 1 (s1.toks+1)] },toks:=s1.toks+1+1 }:=I1.kept fun b o e=>ao _ e;have fr:j8 X pins H1 s1.heap.objs.size:=I1.yL (au _) (I1.hok.fresh (au _));have J2:=J1.pinned (fp:=[s1.heap.objs.size]) (fun b hb=>by rw [jt.mp hb];exact fr) fun b hb=>by rw [jt.mp hb];exact ⟨_,hR0,fun v z=>by cases z⟩
  generalize eR:({ cls := .type "range",data := .fields #[.int 0 s1.toks,.int n t,.int 1 (s1.toks+1)] }:Obj)=oR at *;have mR:(s1.heap.objs.size,oR)∈vI [s1.heap.objs.size] (s1.heap.push oR):=lO (jt.mpr rfl) hR0;obtain ⟨ps1,hT1,st1⟩:=g1 T _ hGT;refine cL (acP (nm:=some "key") (kpos:=kp) (aAQ (cc:=cc) hC hbt hcode (a1B hcf hcc) hd hq) ah4 pos _ _ σ H1 (fun zs H2=>∃ f c' ps',zs=[.ref f]/\zP X c f c' cc H2/\H2 T=some (.vH ps')/\wR H2 c.qual c.pos ps'/\(∀ b u,b≠T->H1 b=some u->H2 b=some u)) J2 ⟨ps1,hT1,st1,fun f c' ps' H2 la hT2 st2 _ kp2=>⟨f,c',ps',rfl,la,hT2,st2,kp2⟩⟩) fun kvs s2 ⟨zs,H2,I2,rz,f,c',ps',ez,la,hT2,st2,kp2⟩=>?_;subst ez;cases rz with
  | @cons _ kv _ _ rk rn =>
   cases rn;cases rk;have hR2:=(I2.pin _ (jf _ (jf _ mR))).1;have U2:Inv X pins σ H2 s2:=I2.rH;show wpAny _ _ (call (.builtin "sorted") [.ref s1.heap.objs.size] [(Str.ofString "key",.ref f)]) _ _ s2;have ts:Ts H1 H2:=⟨fun a xs q0=>kp2 a _ (acL q0 hT1 (fun z=>by cases z)) q0,fun a o u q0=>kp2 a _ (acL q0 hT1 (fun z=>by cases z)) q0⟩
   have g2:HR X.K H2 G1:=fun a o q0=>by
    by_cases y:a=T
    ·rw [y,hGT] at q0;cases q0;rw [y];exact ⟨ps',hT2,st2⟩
    ·exact (g1 a o q0).keep ts fun u q=>kp2 a u y q
   obtain ⟨vc,hv,rdc⟩:=(sr.mono (t1.trans ts)).get hix;refine call_function_entry_kw kind_sorted plain_sorted entry_sorted (ksk_s1 _ _) ?_;unfold Builtin.«sorted»;refine aj (m:=checkCount "sorted" 1 1 _) (bh ?_);subst eR;refine aj (a3S (n:=n) (U2.ok.hd hcm) hR2 (small_one (by omega) (by omega) (by omega) (by omega)) (by rw [rangeSize_one];split <;> omega) (by omega) fun h' tk acc kp1 hacc=>?_);have I3:Inv X pins σ H2 { s2 with heap:=h',toks:=tk }:=U2.kept kp1
   have rv:Vals ((dh n).map fun i:Nat=>V.int (i:Int)) acc.toList:=by
    rw [List.range_eq_range'];refine abS (by simpa using hacc.1) fun i u e=>?_;obtain ⟨t,e2⟩:=hacc.2 i u (by simpa using e);exact ⟨t,by rw [e2];congr 1;omega⟩
   have la':acc.toList.length=n:=by simpa using hacc.1
   refine aj (wpAny_newList ?_ (by omega));have oL:(h'.push (seqObj "list" acc.toList.toArray 0)).get? h'.objs.size=some (seqObj "list" acc.toList.toArray 0):=dw _ rfl;have I4:Inv X pins σ H2 { s2 with heap:=h'.push (seqObj "list" acc.toList.toArray 0),toks:=tk }:=I3.kept (t':=tk) fun b o e=>ao _ e;show wpAny _ _ _ _ _ { s2 with heap:=h'.push (seqObj "list" acc.toList.toArray 0),toks:=tk };refine aj (wpAny_holding (wpAny_call_entry_kw slot_list_sort ⟨_,oL,rfl⟩ entry_list_sort ?body (ksk_l1 _ _)))
   case body =>
    show wpAny (model X.prog X.w) X.A.in1.in1 (Builtin.«list.sort» ⟨[.ref h'.objs.size],[(Str.ofString "key",.ref f)]⟩) _ _ _;rw [ksk_t1];exact a9L LO hr hu I4 g2 la hcc hN hx hv rdc (adR (dh n)) rv oL (I3.yL (au _) (I3.hok.fresh (au _))) (by simp;omega) hk (fun v H' d G' t=>kk v H' d G' ((t1.trans ts).trans t)) fun s' ep=>⟨_,rfl,bh ⟨_,rfl,ep⟩⟩
end
end
end L2
namespace L4
open PySem PySem.Spec PyProof.Rows L2
inductive BF where
 | len | isi | min | max | sum | a9M
 deriving DecidableEq
inductive MK where
 | append | extend | clear
 deriving DecidableEq
inductive GT where
 | con (d:D) | cls (a:Addr) | fn (sp:iT) (n:Nat) (qt:Bool) | bf (b:BF) | bt (n:String) | kl (C:Addr) (sp:iT) (dd:List D) | me (C:Addr) (m:Str) (sp:iT) (dd:List D) | fl (C:Addr) (f:Str) | clo (c:ahM) (sp:iT) | fnP (sp:iT) (n:Nat)
structure SI where
 N:List Str
 fl:List Bool
 lc:List Bool
 ce:List Bool
 gl:List (Str×GT)
 gv:List Bool
 calm:Bool
 need:Bool
mutual
inductive CE where
 | fre (i:Nat) | var (i:Nat) | con (d:D) | glo (k:Nat) | neg (a:CE) | aoI (a:CE) | bin (o:Operator) (a b:CE) | cmp (o:CmpOp) (a b:CE) | chain (o o':CmpOp) (a b c:CE)
 | abT (es:CEs) | ifx (c:CT) (a b:CE) | tup (es:CEs) | lst (es:CEs) | ix (a b:CE) | sl (a:CE) (lo hi:CO) | call (k:Nat) (es:CEs) | meth (m:MK) (o:CE) (es:CEs)
 | comp (fl gv:List Bool) (ci:CI) (cc:CC) (e:CE) | zQ (n:Nat) (fl gv:List Bool) (ci:CI) (cc:CC) (e:CE) | eqd (neg:Bool) (a b:CE) | maxD (k:Nat) (e d:CE)
inductive CEs where
 | nil | cons (e:CE) (r:CEs)
inductive CT where
 | cmp (o:CmpOp) (a b:CE) | chain (o o':CmpOp) (a b c:CE) | not (t:CT) | and (ts:CTs) | or (ts:CTs) | val (e:CE) | eqd (neg:Bool) (a b:CE)
inductive CTs where
 | nil | cons (t:CT) (r:CTs)
inductive CO where
 | none | some (e:CE)
inductive CI where
 | any (e:CE) | a9N (e:CE) | enu (e:CE)
inductive CC where
 | none | some (t:CT)
end
noncomputable abbrev SI.cmp (S:SI) (xs:List Str) (fl gv:List Bool):SI:=⟨xs++S.N,xs.map (fun _=>true)++fl,xs.map (fun _=>true)++S.N.map (fun _=>false),xs.map (fun _=>false)++fl,S.gl,gv,S.calm,false⟩
noncomputable def ajN:cF:=fun _ _ _=>False
noncomputable def ar6:vM:=fun _ _ _=>False
noncomputable def NoX:aN->aV:=fun _ _ _=>False
noncomputable def ar7:Operator->R3
 | .Add=>dR
 | .Sub=>rR
 | .Mult=>gU
 | .FloorDiv=>dF
 | .Mod=>bZ
 | .Pow=>zM
 | _=>fun _ _ _ _=>False
noncomputable def a1T:CmpOp->R3
 | .Eq=>jV
 | .NotEq=>ahU
 | .Lt=>yQ
 | .LtE=>abR
 | .Gt=>a07
 | .GtE=>a8P
 | .Is=>a3L
 | .IsNot=>a0Y
 | .In=>aA0
 | .NotIn=>ad1
noncomputable def ajO:Bool->R3
 | true=>ad7
 | false=>aqT
noncomputable def aB2 (K:Fg):BF->List D->Gp->dX->Prop
 | .len=>dY
 | .isi=>bW K
 | .min=>sI
 | .max=>yZ
 | .sum=>a93
 | .a9M=>pW
noncomputable def avL (n:String):List D->Gp->dX->Prop:=if n = "int" then aqN else if n = "list" then vP else if n = "str" then aqU else if n = "tuple" then adG else fun _ _ _=>False
noncomputable def mkT:MK->String
 | .append => "list"
 | .extend => "list"
 | .clear => "list"
noncomputable def mkR:MK->RM3
 | .append=>eN
 | .extend=>sG
 | .clear=>uL
noncomputable def mkN:MK->Str
 | .append => "append"
 | .extend => "extend"
 | .clear => "clear"
noncomputable def avM (T:List (Str×GT)) (k:Nat):cF:=match T[k]? with
 | some (_,.con d)=>aR d
 | some (_,.cls a)=>aR (.ref a)
 | some (_,.bt n)=>aR (.ty n)
 | _=>ajN
noncomputable def avN (T:List (Str×GT)) (K:Fg) (ex:aN->aV) (k:Nat) (t:pK):cF:=match T[k]? with
 | some (_,.fn sp _ _)=>aX sp ex t
 | some (_,.cls a)=>aiJ a t
 | some (_,.bf b)=>cX (aB2 K b) t
 | some (_,.bt n)=>cX (avL n) t
 | some (_,.kl C sp dd)=>abI C sp dd ex t
 | _=>ajN
mutual
noncomputable def mE (T:List (Str×GT)) (K:Fg) (ex:aN->aV):CE->cF
 | .fre i=>aA i
 | .var i=>aA i
 | .con d=>aR d
 | .glo k=>avM T k
 | .neg a=>a4N (mE T K ex a)
 | .aoI a=>a6A (mE T K ex a)
 | .bin o a b=>aC (ar7 o) (mE T K ex a) (mE T K ex b)
 | .cmp o a b=>aC (a1T o) (mE T K ex a) (mE T K ex b)
 | .chain o o' a b c=>jT (a1T o) (a1T o') (mE T K ex a) (mE T K ex b) (mE T K ex c)
 | .abT es=>avO T K ex es
 | .ifx c a b=>an6 (mT T K ex c) (mE T K ex a) (mE T K ex b)
 | .tup es=>fL (mA T K ex es)
 | .lst es=>jH (mA T K ex es)
 | .ix a b=>aC cA (mE T K ex a) (mE T K ex b)
 | .sl a lo hi=>wW (mE T K ex a) (mO T K ex lo) (mO T K ex hi)
 | .call k es=>avN T K ex k (mA T K ex es)
 | .meth m o .nil=>afN (mkT m) (mkR m) (mE T K ex o)
 | .meth m o (.cons e r)=>tM3 (mkT m) (mkR m) (mE T K ex o) (aB (mE T K ex e) (mA T K ex r))
 | .comp _ _ ci cc e=>abE (mI T K ex ci) (mC T K cc) (mE T K NoX e)
 | .zQ n _ _ ci cc e=>mZ n (mI T K ex ci) (mC T K cc) (mE T K NoX e)
 | .eqd neg a b=>aC (ajO neg) (mE T K ex a) (mE T K ex b)
 | .maxD _ e d=>ad9 (mE T K ex e) (mE T K ex d)
noncomputable def mA (T:List (Str×GT)) (K:Fg) (ex:aN->aV):CEs->pK
 | .nil=>aD
 | .cons e r=>aB (mE T K ex e) (mA T K ex r)
noncomputable def avO (T:List (Str×GT)) (K:Fg) (ex:aN->aV):CEs->cF
 | .nil=>ajN
 | .cons e .nil=>mE T K ex e
 | .cons e (.cons e' r)=>rP (mE T K ex e) (avO T K ex (.cons e' r))
noncomputable def mOr (T:List (Str×GT)) (K:Fg) (ex:aN->aV):CEs->cF
 | .nil=>ajN
 | .cons e .nil=>mE T K ex e
 | .cons e (.cons e' r)=>aqG (mE T K ex e) (mOr T K ex (.cons e' r))
noncomputable def mT (T:List (Str×GT)) (K:Fg) (ex:aN->aV):CT->vM
 | .cmp o a b=>aO (aC (a1T o) (mE T K ex a) (mE T K ex b))
 | .chain o o' a b c=>aO (jT (a1T o) (a1T o') (mE T K ex a) (mE T K ex b) (mE T K ex c))
 | .not t=>rO (mT T K ex t)
 | .and ts=>ajP T K ex ts
 | .or ts=>avP T K ex ts
 | .val e=>aO (mE T K ex e)
 | .eqd neg a b=>aO (aC (ajO neg) (mE T K ex a) (mE T K ex b))
noncomputable def ajP (T:List (Str×GT)) (K:Fg) (ex:aN->aV):CTs->vM
 | .nil=>ar6
 | .cons e .nil=>mT T K ex e
 | .cons e (.cons e' r)=>qU (mT T K ex e) (ajP T K ex (.cons e' r))
noncomputable def avP (T:List (Str×GT)) (K:Fg) (ex:aN->aV):CTs->vM
 | .nil=>ar6
 | .cons e .nil=>mT T K ex e
 | .cons e (.cons e' r)=>a0X (mT T K ex e) (avP T K ex (.cons e' r))
noncomputable def mO (T:List (Str×GT)) (K:Fg) (ex:aN->aV):CO->TO3
 | .none=>rT
 | .some e=>a0Z (mE T K ex e)
noncomputable def mI (T:List (Str×GT)) (K:Fg) (ex:aN->aV):CI->TI3
 | .any e=>nZ (mE T K ex e)
 | .a9N e=>sH (aB (mE T K ex e) aD)
 | .enu _=>fun _ _ _=>False
noncomputable def mC (T:List (Str×GT)) (K:Fg):CC->vM
 | .none=>yV
 | .some t=>mT T K NoX t
end
noncomputable def isStar:Expr->Bool
 | .Starred ..=>true
 | _=>false
noncomputable def isSlice:Expr->Bool
 | .Slice ..=>true
 | _=>false
noncomputable def oX:Expr->Bool
 | .Call (.Name id _) [] [] _=>id != ("super" : Str)
 | _=>true
noncomputable def isSet:Expr->Bool
 | .Set ..=>true
 | _=>false
noncomputable def avQ:BF->String
 | .len => "len"
 | .isi => "isinstance"
 | .min => "min"
 | .max => "max"
 | .sum => "sum"
 | .a9M => "sorted"
noncomputable def ajQ:BF->Value
 | b => .builtin (avQ b)
noncomputable def abU:BF->Bool
 | .len=>true
 | .isi=>true
 | .a9M=>true
 | _=>false
noncomputable def xC (S:SI):Bool:=(dh S.gl.length).any fun k=>S.gv[k]? == some true&&match S.gl[k]? with
 | some (y,.bt n)=>y == ("range" : Str)&&n == "range"
 | _=>false
noncomputable def a76 (S:SI):Bool:=(dh S.gl.length).any fun k=>S.gv[k]? == some true&&match S.gl[k]? with
 | some (y,.bt n)=>y == ("enumerate" : Str)&&n == "enumerate"
 | _=>false
noncomputable def adS (S:SI) (k:Nat) (x:Str):Bool:=match S.gl[k]? with
 | some (y,.bf b)=>y == x&&ajQ b == .builtin "max"
 | _=>false
noncomputable def avR (S:SI) (y:Str):Bool:=(dh S.N.length).any fun i=>S.N[i]? == some y&&S.ce[i]? == some true
noncomputable def a77:List Str->Bool
 | []=>true
 | x :: r=>!r.contains x&&a77 r
noncomputable def sV:List Expr->Option (List Str)
 | []=>some []
 | .Name x _ :: r=>(sV r).map (x :: ·)
 | _=>none
noncomputable def uY (S:SI) (xs:List Str) (scope:Scope) (fl gv:List Bool):Bool :=
 scope.kind == .function&&scope.names.all (fun y=>y.2 != .cell&&(y.2 != .local || scope.names.lookup y.1 == some .local)&&(y.2 != .free || avR S y.1)) &&
 xs.all (fun x=>scope.names.lookup x == some .local&&!S.N.contains x&&x != ("__debug__" : Str)&&x != ("__classdict__" : Str))&&a77 xs &&
 S.N.all (fun y=>scope.names.lookup y != some .local) &&
 (dh S.N.length).all (fun i=>fl[i]? != some true || (S.fl[i]? == some true&&match S.N[i]? with
  | some y=>scope.names.lookup y == some .free
  | none=>false)) &&
 (dh S.gl.length).all (fun k=>gv[k]? != some true || match S.gl[k]? with
  | some (y,_)=>scope.names.lookup y == some .globalImplicit
  | none=>false)
noncomputable def ar8:D->Const->Bool
 | .int i,.int j=>i == j
 | .str s,.str t=>s == t
 | .bl b,.bool c=>b == c
 | .non,.none=>true
 | _,_=>false
noncomputable def plainT:Expr->Bool
 | .UnaryOp .Not _ _=>false
 | .BoolOp ..=>false
 | .IfExp ..=>false
 | .Compare ..=>false
 | _=>true
noncomputable def ajR (S:SI) (k:Nat) (x:Str):Bool:=match S.gl[k]? with
 | some (y,.con _)=>y == x
 | some (y,.cls _)=>y == x
 | some (y,.bt _)=>y == x
 | _=>false
noncomputable def adT (S:SI) (k:Nat) (x:Str) (e:Bool):Bool:=match S.gl[k]? with
 | some (y,.fn _ _ qt)=>y == x&&(qt || S.calm)
 | some (y,.cls _)=>y == x
 | some (y,.bf b)=>y == x&&e&&(S.calm || abU b)
 | some (y,.bt _)=>y == x&&e
 | some (y,.kl _ _ _)=>y == x&&S.calm
 | _=>false
noncomputable def aHG:Expr->Option (Expr×Str×Bool)
 | .Call (.Attribute y n ap) [] [] cp=>some (y,n,ap.endLine == cp.line)
 | _=>none
noncomputable def xD:Expr->Option (Str×Expr)
 | .Call (.Name x _) [z] [] _=>some (x,z)
 | _=>none
noncomputable def lit:Expr->Option (Str×Nat×Pos)
 | .Constant (.str y) j p=>some (y,j,p)
 | _=>none
noncomputable def ajS:List Str->List (Option Expr)->Bool
 | [],[]=>true
 | k :: ks,some (.Constant (.str k') _ _) :: es=>k == k'&&ajS ks es
 | _,_=>false
mutual
noncomputable def kE (S:SI):CE->Expr->Bool
 | .fre i,.Name x _=>S.N[i]? == some x&&S.ce[i]? == some true&&x != ("__debug__" : Str)&&x != ("__classdict__" : Str)
 | .var i,.Name x _=>S.N[i]? == some x&&S.fl[i]? == some true
 | .con d,.Constant c _ _=>ar8 d c
 | .glo k,.Name x _=>S.gv[k]? == some true&&ajR S k x
 | .neg a,.UnaryOp .USub e _=>kE S a e
 | .aoI a,.UnaryOp .Not e _=>kE S a e
 | .bin o a b,.BinOp x o' y _=>o == o'&&kE S a x&&kE S b y
 | .cmp o a b,.Compare x [o'] [y] _=>o == o'&&!behindInMarks o' y&&kE S a x&&kE S b y
 | .chain o o' a b c,.Compare x [p,p'] [y,z] _=>o == p&&o' == p'&&!lastMarks [p,p'] [y,z]&&kE S a x&&kE S b y&&kE S c z
 | .abT es,.BoolOp .And xs _=>uQ S es xs
 | .ifx c a b,.IfExp t x y _=>kT S c t&&kE S a x&&kE S b y
 | .tup es,.Tuple xs _ _=>uQ S es xs
 | .lst es,.List xs _=>uQ S es xs
 | .ix a b,.Subscript x y _=>!isSlice y&&kE S a x&&kE S b y
 | .sl a lo hi,.Subscript x (.Slice l h none _) _=>kE S a x&&kO S lo l&&kO S hi h
 | .call k es,.Call (.Name x _) xs [] _=>uQ S es xs&&S.gv[k]? == some true&&adT S k x (!xs.isEmpty)
 | .meth m o es,.Call (.Attribute y n ap) xs [] cp=>n == mkN m&&oX y&&ap.endLine == cp.line&&decide (xs.length < 30)&&kE S o y&&uQ S es xs
 | .comp fl gv ci cc e,.ListComp elt [⟨.Name x _,iter,ifs,a⟩] scope _=>a == 0&&uY S [x] scope fl gv&&!isSet iter&&kI S false ci iter&&kC (S.cmp [x] fl gv) cc ifs&&kE (S.cmp [x] fl gv) e elt
 | .zQ n fl gv ci cc e,.ListComp elt [⟨.Tuple es _ _,iter,ifs,a⟩] scope _=>S.calm&&a == 0&&(match sV es with
  | some xs=>xs.length == n&&uY S xs scope fl gv&&!isSet iter&&kI S true ci iter&&kC (S.cmp xs fl gv) cc ifs&&kE (S.cmp xs fl gv) e elt
  | none=>false)
 | .eqd neg a b,.Compare x [o'] [y] _=>o' == (if neg then CmpOp.NotEq else CmpOp.Eq)&&kE S a x&&kE S b y
 | .maxD k e d,.Call (.Name x _) [y] [⟨some n,z,_⟩] _=>n == ("default" : Str)&&S.calm&&S.gv[k]? == some true&&adS S k x&&!isStar y&&kE S e y&&kE S d z
 | _,_=>false
noncomputable def uQ (S:SI):CEs->List Expr->Bool
 | .nil,[]=>true
 | .cons e r,x :: xs=>!isStar x&&kE S e x&&uQ S r xs
 | _,_=>false
noncomputable def kT (S:SI):CT->Expr->Bool
 | .cmp o a b,.Compare x [o'] [y] _=>o == o'&&!behindInMarks o' y&&kE S a x&&kE S b y
 | .chain o o' a b c,.Compare x [p,p'] [y,z] _=>o == p&&o' == p'&&!lastMarks [p,p'] [y,z]&&kE S a x&&kE S b y&&kE S c z
 | .not t,.UnaryOp .Not e _=>kT S t e
 | .and ts,.BoolOp .And xs _=>kTs S ts xs
 | .or ts,.BoolOp .Or xs _=>kTs S ts xs
 | .eqd neg a b,.Compare x [o'] [y] _=>o' == (if neg then CmpOp.NotEq else CmpOp.Eq)&&kE S a x&&kE S b y
 | .val e,x=>plainT x&&kE S e x
 | _,_=>false
noncomputable def kTs (S:SI):CTs->List Expr->Bool
 | .nil,[]=>true
 | .cons e r,x :: xs=>kT S e x&&kTs S r xs
 | _,_=>false
noncomputable def kO (S:SI):CO->Option Expr->Bool
 | .none,none=>true
 | .some e,some x=>kE S e x
 | _,_=>false
noncomputable def kI (S:SI) (tt:Bool):CI->Expr->Bool
 | .any e,x=>kE S e x
 | .a9N e,.Call (.Name r _) [y] [] _=>r == ("range" : Str)&&xC S&&!isStar y&&kE S e y
 | .enu e,x=>tt&&(match xD x with
  | some (r,y)=>r == ("enumerate" : Str)&&a76 S&&!isStar y&&kE S e y
  | none=>false)
 | _,_=>false
noncomputable def kC (S:SI):CC->List Expr->Bool
 | .none,[]=>true
 | .some t,[x]=>kT S t x
 | _,_=>false
end
end L4
namespace L4
open PySem PySem.Spec PyProof.Rows L2
variable {e:Expr}{env:Env}
theorem bK {es:List Expr} (h:isStar e=false):starEach (e :: es) env=(false,eval e env) :: starEach es env:=by
 cases e <;> first | rfl | (exact absurd (show true=false from h) (by decide))
theorem sW {S:SI} {env:Env} {pos:Pos}:∀ {cs:CEs} {xs:List Expr},uQ S cs xs=true->(backTo pos (starEach xs env)).any (·.1)=false
 | .nil,[],_=>rfl
 | .nil,_ :: _,h=>absurd (show false=true from h) (by decide)
 | .cons _ _,[],h=>absurd (show false=true from h) (by decide)
 | .cons e r,x :: xs,h=>by
  have h':(!isStar x&&kE S e x&&uQ S r xs)=true:=h;simp only [ak,dg] at h';rw [bK h'.1.1];show (false || (backTo pos (starEach xs env)).any (·.1))=false;rw [sW h'.2];rfl
theorem uN {o:Expr} {n:Str} (h:oX o=true):attributeBase o n env (eval o env)=eval o env:=by
 cases o with
 | Call f args kws pos =>
  cases f with
  | Name id p =>
   cases args with
   | nil =>
    cases kws with
    | nil =>
     have h':(id != ("super" : Str))=true:=h;unfold attributeBase;simp only [h',Bool.true_or,if_true]
    | cons _ _=>rfl
   | cons _ _=>cases kws <;> rfl
  | _=>rfl
 | _=>rfl
noncomputable abbrev BMv:List Value:=[.type "ValueError",.type "Exception",.type "BaseException",.type "object"]
noncomputable def avS (X:Cx) (cm:Bool) (x:Str):GT->Prop
 | .con d=>∃ u v,X.mg x=some u/\RelV v u/\∀ H,RD X.K H d v
 | .cls a=>X.mg x=some (.ref a)/\uq X.K a BMv "ValueError.__new__" = true
 | .fn sp n qt=>(qt=true∨cm=true)->∃ k f fd ps,cI qt X.prog X.w X.K X.mg X.base (jB X.prog X.w) k f fd ps (cZ X.K sp)/\cR qt k X.A/\X.mg x=some (.ref f)/\mz X.K (.ref f)=true/\Binds X.K fd ps []
 | .bf b=>X.mg x=none/\bootBuiltins x=some (ajQ b)
 | .bt n=>X.mg x=none/\bootBuiltins x=some (.type n)
 | .kl C sp dd=>cm=true->∃ k f fd ps ds wJ,Mk X.K C f/\cI false X.prog X.w X.K X.mg X.base (jB X.prog X.w) k f fd ps (cZ X.K sp)/\cR false (k+1) X.A/\X.mg x=some (.ref C)/\Binds X.K fd ps ds/\Vals wJ ds/\∀ H,bV X.K H dd wJ
 | .me C m sp dd=>cm=true->∃ k f fd ps ds wJ,Cls X.K C/\Meth X.K C m f/\cI false X.prog X.w X.K X.mg X.base (jB X.prog X.w) k f fd ps (cZ X.K sp)/\cR false k X.A/\Binds X.K fd ps ds/\Vals wJ ds/\∀ H,bV X.K H dd wJ
 | .fl C f=>Cls X.K C/\ah3 X.K C f
 | .clo c sp=>cm=true->∃ k,a8S false X.prog X.w X.K X.mg X.base k c sp/\cR false k X.A
 | .fnP sp n=>cm=true->∃ k f fd ps,a9B false X.prog X.w X.K X.mg X.base (jB X.prog X.w) k f fd ps (cZ X.K sp)/\cR false k X.A/\X.mg x=some (.ref f)/\mz X.K (.ref f)=true/\Binds X.K fd ps []
structure gZ (X:Cx) (S:SI) (ex:aN->aV):Prop where
 N:X.N=S.N
 nd:X.N.Nodup
 vis:∀ (i:Nat) (x:Str),S.N[i]?=some x->S.fl[i]?=some true->Vis X.env.scope x/\(x == ("__debug__" : Str))=false/\(x == ("__classdict__" : Str))=false
 ce:∀ (i:Nat) (x:Str),S.N[i]?=some x->S.ce[i]?=some true->X.env.kindOf x=some .cell∨X.env.kindOf x=some .free
 gm:∀ (k:Nat) (x:Str) (g:GT),S.gl[k]?=some (x,g)->(S.gv[k]?=some true->Gl X x)/\(x == ("__debug__" : Str))=false/\x ≠ "__name__" /\ avS X S.calm x g
 hu:X.A.units+64 < cLine
 cm:S.calm=true->X.calm=true
 cat:Cat X ex
 nk:S.need=true->X.need=true
theorem gZ.gl {X:Cx} {S:SI} {ex:aN->aV} (Q:gZ X S ex) (k:Nat) (x:Str) (g:GT) (h:S.gl[k]?=some (x,g)) (hv:S.gv[k]?=some true):Gl X x/\(x == ("__debug__" : Str))=false/\x ≠ "__name__" /\ avS X S.calm x g :=
 ⟨(Q.gm k x g h).1 hv,(Q.gm k x g h).2⟩
section
variable {X:Cx} {S:SI} {ex:aN->aV}
theorem ajT:cM X e ajN:=fun _ _ _ _ _ _ ⟨_,_,_,_,_,z,_⟩=>z.elim
theorem aoJ {o:Operator}:a0W X (binaryOp o) (ar7 o):=by
 have no:∀ {f:Value->Value->Sem Value},a0W X f (fun _ _ _ _=>False):=fun {f}=>⟨fun _ _ _ _=>False,fun _ _ _ _ _ _ _ _ _ _ _ _ h=>h.elim,fun _ _ _ _ _ _ _ _ _ _ _ h _=>h.elim⟩;exact match o with
 | .Add=>azJ
 | .Sub=>azG
 | .Mult=>avJ
 | .FloorDiv=>atY
 | .Mod=>azH
 | .Pow=>azI
 | .MatMult=>no
 | .Div=>no
 | .LShift=>no
 | .RShift=>no
 | .BitOr=>no
 | .BitXor=>no
 | .BitAnd=>no
theorem uO {o:CmpOp} (hu:X.A.units+64 < cLine):mV X (compareOp o) (a1T o):=by
 exact match o with
 | .Eq=>aEL hu
 | .NotEq=>aEM hu
 | .Lt=>aE8
 | .LtE=>aAY hu
 | .Gt=>aE9
 | .GtE=>aEA
 | .Is=>aEB
 | .IsNot=>atZ
 | .In=>aEO hu
 | .NotIn=>anI hu
theorem aB4 {n:String}:cJ X (.type n) (avL n):=by
 unfold avL;split
 ·rename_i h;subst h;exact azY
 ·split
  ·rename_i h;subst h;exact auD
  ·split
   ·rename_i h;subst h;exact aAN
   ·split
    ·rename_i h;subst h;exact ao2
    ·exact fun _ _ _ _ _ _ _ _ _ _ _ _ _ _ h _=>h.elim
theorem ajU {qt:Bool} {k:Nat} {f:Addr} {fd:FuncData} {ps:List Str} {sp:iT} {x:Str} {p pos:Pos} (F:cI qt X.prog X.w X.K X.mg X.base (jB X.prog X.w) k f fd ps (cZ X.K sp)) (hr:cR qt k X.A) (hg:Gl X x) (hm:X.mg x=some (.ref f)) (hk:mz X.K (.ref f)=true) (hb:Binds X.K fd ps []) (hx:Cat X ex)
  (hdb:(x == ("__debug__" : Str))=false):cM X (.Call (.Name x p) [] [] pos) (aX sp ex aD):=by
 intro pins s σ H Q I h _tk;obtain ⟨ρ,G,R,sr,g,q,kk⟩:=h;refine wpAny_Call_Name_kw (mY I hg hm ?_ hdb);refine PySem.W.callWith_K0 I.kIn hk ?_;exact acY (E:=a1A X.K (ex ρ)) F hr hb (fun e s' c=>hx.a8Q pins σ H s ρ e s' I sr c) I .nil (Q:=fun v H'=>∃ d G',RD X.K H' d v/\HR X.K H' G'/\R d G') ⟨[],G,R,ex ρ,.nil,g,q,fun v H' d G' r2 g2 q2=>⟨d,G',r2,g2,q2⟩,fun C H' G' g' q'=>⟨C,G',rfl,g',q'⟩⟩ fun v H' t2 ⟨d,G',r2,g2,q2⟩=>kk v H' d G' t2 r2 g2 q2
theorem abV {xs:List Expr} {cs:CEs} {cp:Pos} (h:uQ S cs xs=true) (hl:xs.length < 30):((backTo cp (starEach xs X.env)).all (fun x=>!x.1)&&(backToKw cp (keywordEach [] X.env)).all (fun x=>x.1.isSome)
   && decide (xs.length+([]:List Keyword).length+(if ([]:List Keyword).isEmpty then 0 else 1) < 30))=true:=by
 have h1:(backTo cp (starEach xs X.env)).all (fun x=>!x.1)=true:=by
  rw [gj];intro y hy;have:=sW (env:=X.env) (pos:=cp) h;rw [List.any_eq_false] at this;have:=this y hy;simpa using this
 have h2:(decide (xs.length+([]:List Keyword).length+(if ([]:List Keyword).isEmpty then 0 else 1) < 30))=true:=decide_eq_true (by simpa using hl);rw [h1,h2];rfl
end
end L4
namespace L4
open PySem PySem.Spec PyProof.Rows L2
variable {e:Expr}{es:List Expr}{m:MK}{to:cF}{xs:List Str}{env:Env}{scope:Scope}
section
variable {X:Cx} {S:SI} {ex:aN->aV}
theorem avT {d:D} {c:Const} {j:Nat} {pos:Pos} (h:ar8 d c=true):cM X (.Constant c j pos) (aR d):=by
 cases d <;> cases c <;> first | exact absurd (show false=true from h) (by decide) | skip
 ·exact az3
 ·have:=beq_iff_eq.mp h;subst this;exact aE4
 ·have:=beq_iff_eq.mp h;subst this;exact az2
 ·have:=beq_iff_eq.mp h;subst this;exact az4
theorem avU (h:plainT e=true):∀ whole,isTrue e X.env whole=(do let v ← whole;standAt e.pos;holding [v] (truthy v)):=by
 cases e with
 | UnaryOp op x p=>cases op <;> first | exact absurd (show false=true from h) (by decide) | (intro _;rfl)
 | BoolOp _ _ _=>exact absurd (show false=true from h) (by decide)
 | IfExp _ _ _ _=>exact absurd (show false=true from h) (by decide)
 | Compare _ _ _ _=>exact absurd (show false=true from h) (by decide)
 | _=>intro _;rfl
theorem aB5 (h:isSlice e=false):a5X e:=by
 cases e with
 | Slice _ _ _ _=>exact absurd (show true=false from h) (by decide)
 | _=>intro _ _;rfl
theorem aB6 (Q:gZ X S ex) {k:Nat} {x:Str} {b:BF} (hk:S.gl[k]?=some (x,.bf b)) (hv:S.gv[k]?=some true) (hc:(S.calm || abU b)=true) {t:pK} {p pos:Pos} (ha:PA3 X (e :: es) t) (he:isStar e=false) (hp:(backTo pos (starEach es X.env)).any (·.1)=false):cM X (.Call (.Name x p) (e :: es) [] pos) (cX (aB2 X.K b) t):=by
 obtain ⟨h1,h2,h3,h4⟩:=Q.gl _ _ _ hk hv
 have cm:abU b=false->X.calm=true:=fun z=>by
  rw [z,Bool.or_false] at hc;exact Q.cm hc
 cases b with
 | len=>exact uK azX h1 h4.1 h4.2 ha h3 h2 (bK he) hp
 | isi=>exact uK a6G h1 h4.1 h4.2 ha h3 h2 (bK he) hp
 | min=>exact uK (auX (cm rfl)) h1 h4.1 h4.2 ha h3 h2 (bK he) hp
 | max=>exact uK (auW (cm rfl)) h1 h4.1 h4.2 ha h3 h2 (bK he) hp
 | sum=>exact uK (aAC (cm rfl)) h1 h4.1 h4.2 ha h3 h2 (bK he) hp
 | a9M=>exact uK aoE h1 h4.1 h4.2 ha h3 h2 (bK he) hp
theorem aoK {o:Expr} {ap cp:Pos} (ho:cM X o to) (hb:oX o=true) (hl:(ap.endLine == cp.line)=true):cM X (.Call (.Attribute o (mkN m) ap) [] [] cp) (afN (mkT m) (mkR m) to):=by
 cases m with
 | append=>exact ai1 PySem.F.plainAttrs_list PySem.F.slot_list_append PySem.F.type_list_append a8W ho (uN hb) hl
 | extend=>exact ai1 PySem.F.plainAttrs_list PySem.F.slot_list_extend PySem.F.type_list_extend a8X ho (uN hb) hl
 | clear=>exact ai1 PySem.F.plainAttrs_list PySem.F.slot_list_clear PySem.F.type_list_clear ad8 ho (uN hb) hl
theorem ajV {o:Expr} {t:pK} {cs:CEs} {ap cp:Pos} (ho:cM X o to) (ha:PA3 X (e :: es) t) (hb:oX o=true) (hl:(ap.endLine == cp.line)=true) (hk:uQ S cs (e :: es)=true) (hn:(e :: es).length < 30) :
  cM X (.Call (.Attribute o (mkN m) ap) (e :: es) [] cp) (tM3 (mkT m) (mkR m) to t):=by
 have he:isStar e=false:=by
  cases cs with
  | nil=>exact absurd (show false=true from hk) (by decide)
  | cons c r =>
   have h':(!isStar e&&kE S c e&&uQ S r es)=true:=hk;simp only [ak,dg] at h';exact h'.1.1
 have hp:(backTo cp (starEach es X.env)).any (·.1)=false:=by
  have:=sW (env:=X.env) (pos:=cp) hk;rw [bK he] at this;have z:(false || (backTo cp (starEach es X.env)).any (·.1))=false:=this;simpa using z
 cases m with
 | append=>exact auJ PySem.F.plainAttrs_list PySem.F.slot_list_append PySem.F.type_list_append a8W ho ha (uN hb) (abV hk hn) hl (bK he) hp
 | extend=>exact auJ PySem.F.plainAttrs_list PySem.F.slot_list_extend PySem.F.type_list_extend a8X ho ha (uN hb) (abV hk hn) hl (bK he) hp
 | clear=>exact auJ PySem.F.plainAttrs_list PySem.F.slot_list_clear PySem.F.type_list_clear ad8 ho ha (uN hb) (abV hk hn) hl (bK he) hp
local macro_rules | `(tactic| walk_at "off")=>`(tactic| exact absurd (show false=true from by assumption) (by decide))
theorem avV (Q:gZ X S ex) {k:Nat} {x:Str} {p:Pos} (h:kE S (.glo k) (.Name x p)=true):cM X (.Name x p) (avM S.gl k):=by
 have h':(S.gv[k]? == some true&&ajR S k x)=true:=h;rw [ak] at h';obtain ⟨hv,h⟩:=h';have hv:=beq_iff_eq.mp hv;unfold ajR at h;unfold avM;split at h
 ·rename_i y d hk;have:=beq_iff_eq.mp h;subst this;obtain ⟨h1,h2,h3,u,v,h4,h5,h6⟩:=Q.gl _ _ _ hk hv;exact ahN h1 h4 h5 h6 h2
 ·rename_i y d hk;have:=beq_iff_eq.mp h;subst this;obtain ⟨h1,h2,h3,h4⟩:=Q.gl _ _ _ hk hv;exact ahN h1 h4.1 (v := .ref d) rfl (fun _ => .ref _) h2
 ·rename_i y d hk;have:=beq_iff_eq.mp h;subst this;obtain ⟨h1,h2,h3,h4⟩:=Q.gl _ _ _ hk hv;exact atR h1 h4.1 h4.2 h3 h2
 ·exact absurd h (by decide)
theorem aoL (Q:gZ X S ex) {k:Nat} {es:CEs} {x:Str} {p pos:Pos} {xs:List Expr} (ha:PA3 X xs (mA S.gl X.K ex es)) (hk:uQ S es xs=true) (hv:S.gv[k]?=some true) (h:adT S k x (!xs.isEmpty)=true):cM X (.Call (.Name x p) xs [] pos) (avN S.gl X.K ex k (mA S.gl X.K ex es)):=by
 unfold adT at h;unfold avN
 have one:∀ {e:Expr} {r:List Expr},xs=e :: r->isStar e=false/\(backTo pos (starEach r X.env)).any (·.1)=false:=fun {e r} z=>by
  subst z;cases es with
  | nil=>exact absurd (show false=true from hk) (by decide)
  | cons c cr =>
   have h':(!isStar e&&kE S c e&&uQ S cr r)=true:=hk;simp only [ak,dg] at h';exact ⟨h'.1.1,sW h'.2⟩
 split at h
 ·rename_i y sp n qt hg;rw [ak] at h;obtain ⟨h,hc⟩:=h;have:=beq_iff_eq.mp h;subst this;obtain ⟨h1,h2,h3,h4⟩:=Q.gl _ _ _ hg hv;obtain ⟨j,f,fd,ps,F,hr,hm,hkp,hb⟩:=h4 (vh _ _ |>.mp hc);cases xs with
  | nil =>
   cases es with
   | nil=>exact ajU F hr h1 hm hkp hb Q.cat h2
   | cons _ _=>exact absurd (show false=true from hk) (by decide)
  | cons e r=>exact anD F hr h1 hm hkp hb Q.cat ha h2 (bK (one rfl).1) (one rfl).2
 ·rename_i y a hg;have:=beq_iff_eq.mp h;subst this;obtain ⟨h1,h2,h3,h4,h5⟩:=Q.gl _ _ _ hg hv;cases xs with
  | nil =>
   cases es with
   | nil=>exact auY PySem.F.excBase_ValueError (by decide) PySem.F.excBase_ValueError h1 h4 h5 h2
   | cons _ _=>exact absurd (show false=true from hk) (by decide)
  | cons e r=>exact aAH PySem.F.excBase_ValueError (by decide) PySem.F.excBase_ValueError h1 h4 h5 ha h2 (bK (one rfl).1) (one rfl).2
 ·rename_i y b hg;rw [ak,ak] at h;obtain ⟨⟨h,hc⟩,hcm⟩:=h;have:=beq_iff_eq.mp h;subst this;cases xs with
  | nil=>exact absurd (show false=true from hc) (by decide)
  | cons e r=>exact aB6 Q hg hv hcm ha (one rfl).1 (one rfl).2
 ·rename_i y n hg;rw [ak] at h;obtain ⟨h,hc⟩:=h;have:=beq_iff_eq.mp h;subst this;obtain ⟨h1,h2,h3,h4⟩:=Q.gl _ _ _ hg hv;cases xs with
  | nil=>exact absurd (show false=true from hc) (by decide)
  | cons e r=>exact ahV aB4 h1 h4.1 h4.2 ha h3 h2 (bK (one rfl).1) (one rfl).2
 ·rename_i y C sp dd hg;rw [ak] at h;obtain ⟨h,hc⟩:=h;have:=beq_iff_eq.mp h;subst this;obtain ⟨h1,h2,h3,h4⟩:=Q.gl _ _ _ hg hv;obtain ⟨kk,f,fd,ps,ds,wJ,q1,q2,q3,q4,q5,q6,q7⟩:=h4 hc;cases xs with
  | nil =>
   cases es with
   | nil=>exact aiL q1 q2 q3 h1 q4 q5 q6 q7 Q.cat h2
   | cons _ _=>exact absurd (show false=true from hk) (by decide)
  | cons e r=>exact anY q1 q2 q3 h1 q4 q5 q6 q7 Q.cat ha h2 (bK (one rfl).1) (one rfl).2
 ·exact absurd h (by decide)
theorem lV {names:List (Str×NameKind)} {y:Str} {k:NameKind} (h:names.lookup y=some k) :
  (names.map fun (n,k)=>if (k == .free&&env.scope.kind == .function&&env.kindOf n == some .cell) then (n,.cell) else (n,k)).lookup y=some k ∨
  (k = .free/\(names.map fun (n,k)=>if (k == .free&&env.scope.kind == .function&&env.kindOf n == some .cell) then (n,.cell) else (n,k)).lookup y=some .cell):=by
 induction names with
 | nil=>simp at h
 | cons p r ih =>
  obtain ⟨n,kd⟩:=p;rw [jg] at h;show List.lookup y ((if (kd == .free&&env.scope.kind == .function&&env.kindOf n == some .cell)=true then (n,NameKind.cell) else (n,kd)) :: _)=some k∨(k = .free/\List.lookup y ((if (kd == .free&&env.scope.kind == .function&&env.kindOf n == some .cell)=true then (n,NameKind.cell) else (n,kd)) :: _)=some .cell);cases hx:y == n with
  | true =>
   rw [hx] at h;have hkd:kd=k:=by simpa using h
   subst hkd;by_cases hc:(kd == .free&&env.scope.kind == .function&&env.kindOf n == some .cell)=true
   ·rw [if_pos hc,jg,hx];refine .inr ⟨?_,rfl⟩;simp only [ak,beq_iff_eq] at hc;exact hc.1.1
   ·rw [if_neg hc,jg,hx];exact .inl rfl
  | false =>
   rw [hx] at h;have z:=ih h;by_cases hc:(kd == .free&&env.scope.kind == .function&&env.kindOf n == some .cell)=true
   ·rw [if_pos hc,jg,hx];exact z
   ·rw [if_neg hc,jg,hx];exact z
theorem a5C:∀ {xs:List Str},a77 xs=true->xs.Nodup
 | [],_=>List.nodup_nil
 | x :: r,h=>by
  have h':(!r.contains x&&a77 r)=true:=h;rw [ak] at h';exact oh.mpr ⟨by simpa using h'.1,a5C h'.2⟩
theorem zR {fl gv:List Bool} (h:uY S xs scope fl gv=true) :
  scope.kind = .function/\(∀ y∈scope.names,y.2 ≠ .cell/\(y.2 = .local->scope.names.lookup y.1=some .local)/\(y.2 = .free->avR S y.1=true)) /\
  (∀ x∈xs,scope.names.lookup x=some .local/\x ∉ S.N/\(x == ("__debug__" : Str))=false/\(x == ("__classdict__" : Str))=false)/\xs.Nodup/\(∀ y∈S.N,scope.names.lookup y≠some .local) /\
  (∀ (i:Nat) (y:Str),S.N[i]?=some y->fl[i]?=some true->S.fl[i]?=some true/\scope.names.lookup y=some .free) /\
  ∀ (k:Nat) (y:Str) (g:GT),S.gl[k]?=some (y,g)->gv[k]?=some true->scope.names.lookup y=some .globalImplicit:=by
 unfold uY at h;simp only [ak] at h;obtain ⟨⟨⟨⟨⟨⟨h1,h2⟩,h3⟩,h4⟩,h5⟩,h8⟩,h9⟩:=h;refine ⟨beq_iff_eq.mp h1,fun y hy=>?_,fun x hx=>?_,a5C h4,fun y hy=>?_,fun i y e1 e2=>?_,fun k y g e1 e2=>?_⟩
 ·have z:=gj.mp h2 y hy;simp only [ak,bne_iff_ne,ne_eq,vh,beq_iff_eq] at z;obtain ⟨⟨z1,z2⟩,z3⟩:=z;exact ⟨z1,fun e=>z2.resolve_left fun n=>n e,fun e=>z3.resolve_left fun n=>n e⟩
 ·have z:=gj.mp h3 x hx;simp only [ak] at z;obtain ⟨⟨⟨z1,z2⟩,z3⟩,z4⟩:=z;exact ⟨beq_iff_eq.mp z1,by simpa using z2,by simpa using z3,by simpa using z4⟩
 ·have z:=gj.mp h5 y hy;simpa using z
 ·have z:=gj.mp h8 i (ji.mpr (cj.mp e1).1);rw [e2,e1] at z;simpa using z
 ·have z:=gj.mp h9 k (ji.mpr (cj.mp e1).1);rw [e2,e1] at z;simpa using z
theorem iB (Q:gZ X S ex) {fl gv:List Bool} (h:uY S xs scope fl gv=true):pR X xs scope:=by
 obtain ⟨h1,h2,h3,h4,h5,h8,h9⟩:=zR h;refine ⟨h1,fun y hy=>(h2 y hy).1,fun y hy=>(h2 y hy).2.1,fun x hx=>(h3 x hx).1,fun y hy e=>?_,fun x hx=>by rw [Q.N];exact (h3 x hx).2.1,h4,by rw [Q.N];exact h5⟩;have z:=(h2 y hy).2.2 e;unfold avR at z;obtain ⟨i,_,z⟩:=List.any_eq_true.mp z;rw [ak] at z;exact Q.ce i y.1 (beq_iff_eq.mp z.1) (beq_iff_eq.mp z.2)
theorem ajW {X:Cx}:Cat X NoX:=⟨fun _ _ _ _ _ _ _ _ _ ⟨_,_,_,_,_,_,_,_,_,_,_,_,z⟩=>by obtain ⟨_,_,_,_,z⟩:=z;exact z.elim⟩
theorem a5D {α:Type} {xs ys:List α} {i:Nat} {y:α} (h:(xs++ys)[i]?=some y):(i < xs.length/\y∈xs)∨∃ j,i=xs.length+j/\ys[j]?=some y:=by
 by_cases c:i < xs.length
 ·rw [ug c] at h;exact .inl ⟨c,iw h⟩
 ·rw [nq (by omega)] at h;exact .inr ⟨i - xs.length,by omega,h⟩
theorem adU {α β:Type} {xs:List α} {f:α->β} {ys:List β} {j:Nat}:(xs.map f++ys)[xs.length+j]?=ys[j]?:=by
 rw [nq (by simp)];congr 1;simp
theorem gZ.cmp (Q:gZ X S ex) {fl gv:List Bool} (h:uY S xs scope fl gv=true) (C:Addr) (s:Shared) (H:Hp) (fp:List Addr) (pins:List (Addr×Obj)):gZ (fM X xs scope C s H fp pins) (S.cmp xs fl gv) NoX:=by
 obtain ⟨h1,h2,h3,h4,h5,h8,h9⟩:=zR h;refine ⟨by show xs++X.N=xs++S.N;rw [Q.N],abF (iB Q h) Q.nd,fun i y e1 e2=>?_,fun i y e1 e2=>?_,fun k y g e1=>?_,Q.hu,Q.cm,ajW,fun z=>nomatch z⟩
 ·rcases a5D e1 with ⟨_,m⟩ | ⟨j,rfl,e1'⟩
  ·obtain ⟨a1,a2,a3,a4⟩:=h3 y m;exact ⟨.inl (lookup_relabel_local a1),a3,a4⟩
  ·have e2':fl[j]?=some true:=adU.symm.trans e2;obtain ⟨a1,a2⟩:=h8 j y e1' e2';obtain ⟨_,b2,b3⟩:=Q.vis j y e1' a1;refine ⟨?_,b2,b3⟩;rcases lV (env:=X.env) a2 with z | ⟨_,z⟩
   ·exact .inr (.inr z)
   ·exact .inr (.inl z)
 ·rcases a5D e1 with ⟨c,m⟩ | ⟨j,rfl,e1'⟩
  ·have e2':(xs.map (fun _=>false)++fl)[i]?=some true:=e2;rw [ug (by simpa using c)] at e2';simp at e2'
  ·have e2':fl[j]?=some true:=adU.symm.trans e2;obtain ⟨a1,a2⟩:=h8 j y e1' e2';rcases lV (env:=X.env) a2 with z | ⟨_,z⟩
   ·exact .inr z
   ·exact .inl z
 ·obtain ⟨b1,b2,b3,b4⟩:=Q.gm k y g e1;refine ⟨fun e2=>?_,b2,b3,?_⟩
  ·rcases lV (env:=X.env) (h9 k y g e1 e2) with z | ⟨z,_⟩
   ·exact z
   ·cases z
  ·cases g <;> exact b4
theorem a1U:∀ {es:List Expr} {xs:List Str},sV es=some xs->Two (fun e x=>∃ p,e=Expr.Name x p) es xs
 | [],xs,h=>by
  have:xs=[]:=by simpa [sV] using h.symm
  subst this;exact .nil
 | e :: es,xs,h=>by
  cases e with
  | Name x p =>
   have h':(sV es).map (x :: ·)=some xs:=h;cases q:sV es with
   | none=>rw [q] at h';cases h'
   | some r =>
    rw [q] at h';have:xs=x :: r:=by simpa using h'.symm
    subst this;exact .cons ⟨p,rfl⟩ (a1U q)
  | _=>exact absurd (show (none:Option (List Str))=some xs from h) (fun z=>nomatch z)
theorem adV {neg:Bool} {o:CmpOp} (hu:X.A.units+64 < cLine) (h:(o == (if neg then CmpOp.NotEq else CmpOp.Eq))=true):mV X (compareOp o) (ajO neg):=by
 have:=beq_iff_eq.mp h;subst this;cases neg with
 | true=>exact aAF hu
 | false=>exact aAE hu
theorem a9O (Q:gZ X S ex) (h:xC S=true):Gl X "range" /\ X.mg "range" = none:=by
 unfold xC at h;obtain ⟨k,_,h⟩:=List.any_eq_true.mp h;rw [ak] at h;obtain ⟨hv,h⟩:=h;split at h
 ·rename_i y n e;rw [ak] at h;have:=beq_iff_eq.mp h.1;subst this;obtain ⟨g1,g2,g3,g4⟩:=Q.gl _ _ _ e (beq_iff_eq.mp hv);exact ⟨g1,g4.1⟩
 ·exact absurd h (by decide)
theorem aoM (Q:gZ X S ex) (h:a76 S=true):Gl X "enumerate" /\ X.mg "enumerate" = none/\bootBuiltins "enumerate" = some (.type "enumerate"):=by
 unfold a76 at h;obtain ⟨k,_,h⟩:=List.any_eq_true.mp h;rw [ak] at h;obtain ⟨hv,h⟩:=h;split at h
 ·rename_i y n e;rw [ak] at h;have e1:=beq_iff_eq.mp h.1;have e2:=beq_iff_eq.mp h.2;subst e1;subst e2;obtain ⟨g1,g2,g3,g4⟩:=Q.gl _ _ _ e (beq_iff_eq.mp hv);exact ⟨g1,g4.1,g4.2⟩
 ·exact absurd h (by decide)
theorem ajX (Q:gZ X S ex) {k:Nat} {x:Str} (h:adS S k x=true) (hv:S.gv[k]?=some true):Gl X x/\X.mg x=none/\bootBuiltins x=some (.builtin "max")/\x ≠ "__name__" /\ (x == ("__debug__" : Str))=false:=by
 unfold adS at h;split at h
 ·rename_i y b e;rw [ak] at h;have e1:=beq_iff_eq.mp h.1;have e2:=beq_iff_eq.mp h.2;subst e1;obtain ⟨g1,g2,g3,g4⟩:=Q.gl _ _ _ e hv;exact ⟨g1,g4.1,by rw [← e2];exact g4.2,g3,g2⟩
 ·exact absurd h (by decide)
theorem abW {w:Expr} {x:Str} {z:Expr} (h:xD w=some (x,z)):∃ p q,w = .Call (.Name x p) [z] [] q:=by
 unfold xD at h;split at h
 ·cases h;exact ⟨_,_,rfl⟩
 ·cases h
theorem a9P (h:isSet e=false):∀ x,foldedSetIterable e env x=pure x:=by
 cases e <;> first | (intro _;rfl) | exact absurd (show true=false from h) (by decide)
end
end L4
namespace L4
open PySem PySem.Spec PyProof.Rows L2
theorem aW {P:Prop} (h:false=true):P:=absurd h (by decide)
mutual
theorem fG {X:Cx} {S:SI} {ex:aN->aV} (Q:gZ X S ex):∀ (c:CE) (e:Expr),kE S c e=true->cM X e (mE S.gl X.K ex c)
 | .fre i,e,h=>by
  cases e with
  | Name x p =>
   have h':(S.N[i]? == some x&&S.ce[i]? == some true&&x != ("__debug__" : Str)&&x != ("__classdict__" : Str))=true:=h;simp only [ak] at h';have e1:=beq_iff_eq.mp h'.1.1.1;have v:Vis X.env.scope x:=(Q.ce i x e1 (beq_iff_eq.mp h'.1.1.2)).elim (fun z => .inr (.inl z)) (fun z => .inr (.inr z));exact aqD i (by rw [Q.N];exact e1) v (beq_eq_false_iff_ne.mpr (bne_iff_ne.mp h'.1.2)) (beq_eq_false_iff_ne.mpr (bne_iff_ne.mp h'.2))
  | _=>exact aW h
 | .var i,e,h=>by
  cases e with
  | Name x p =>
   have h':(S.N[i]? == some x&&S.fl[i]? == some true)=true:=h;rw [ak] at h';have e1:=beq_iff_eq.mp h'.1;obtain ⟨v1,v2,v3⟩:=Q.vis i x e1 (beq_iff_eq.mp h'.2);exact aqD i (by rw [Q.N];exact e1) v1 v2 v3
  | _=>exact aW h
 | .con d,e,h=>by
  cases e with
  | Constant c j p=>exact avT h
  | _=>exact aW h
 | .glo k,e,h=>by
  cases e with
  | Name x p=>exact avV Q h
  | _=>exact aW h
 | .neg a,e,h=>by
  cases e with
  | UnaryOp op x p =>
   cases op with
   | USub=>exact azT (fG Q a x h)
   | _=>exact aW h
  | _=>exact aW h
 | .aoI a,e,h=>by
  cases e with
  | UnaryOp op x p =>
   cases op with
   | Not=>exact azC (fG Q a x h)
   | _=>exact aW h
  | _=>exact aW h
 | .bin o a b,e,h=>by
  cases e with
  | BinOp x o' y p =>
   have h':(o == o'&&kE S a x&&kE S b y)=true:=h;simp only [ak] at h';have:=beq_iff_eq.mp h'.1.1;subst this;exact aE5 aoJ (fG Q a x h'.1.2) (fG Q b y h'.2)
  | _=>exact aW h
 | .cmp o a b,e,h=>by
  cases e with
  | Compare x ops ys p =>
   match ops,ys,h with
   | [o'],[y],h =>
    have h':(o == o'&&!behindInMarks o' y&&kE S a x&&kE S b y)=true:=h;simp only [ak,dg] at h';have:=beq_iff_eq.mp h'.1.1.1;subst this;exact aqE (uO Q.hu) (fG Q a x h'.1.2) (fG Q b y h'.2) h'.1.1.2
   | [],_,h=>exact aW h
   | _ :: _ :: _,_,h=>exact aW h
   | [_],[],h=>exact aW h
   | [_],_ :: _ :: _,h=>exact aW h
  | _=>exact aW h
 | .chain o o' a b c,e,h=>by
  cases e with
  | Compare x ops ys p =>
   match ops,ys,h with
   | [p1,p2],[y,z],h =>
    have h':(o == p1&&o' == p2&&!lastMarks [p1,p2] [y,z]&&kE S a x&&kE S b y&&kE S c z)=true:=h;simp only [ak,dg] at h';have e1:=beq_iff_eq.mp h'.1.1.1.1.1;have e2:=beq_iff_eq.mp h'.1.1.1.1.2;subst e1;subst e2;exact an4 (uO Q.hu) (uO Q.hu) (fG Q a x h'.1.1.2) (fG Q b y h'.1.2) (fG Q c z h'.2) h'.1.1.1.2
   | [],_,h=>exact aW h
   | [_],_,h=>exact aW h
   | _ :: _ :: _ :: _,_,h=>exact aW h
   | [_,_],[],h=>exact aW h
   | [_,_],[_],h=>exact aW h
   | [_,_],_ :: _ :: _ :: _,h=>exact aW h
  | _=>exact aW h
 | .abT es,e,h=>by
  cases e with
  | BoolOp op xs p =>
   cases op with
   | And=>exact ar9 Q es xs p h
   | Or=>exact aW h
  | _=>exact aW h
 | .ifx c a b,e,h=>by
  cases e with
  | IfExp t x y p =>
   have h':(kT S c t&&kE S a x&&kE S b y)=true:=h;simp only [ak] at h';exact an7 (okT Q c t h'.1.1) (fG Q a x h'.1.2) (fG Q b y h'.2)
  | _=>exact aW h
 | .tup es,e,h=>by
  cases e with
  | Tuple xs j p=>exact azD (okA Q es xs h)
  | _=>exact aW h
 | .lst es,e,h=>by
  cases e with
  | List xs p=>exact azE (okA Q es xs h)
  | _=>exact aW h
 | .ix a b,e,h=>by
  cases e with
  | Subscript x y p =>
   have h':(!isSlice y&&kE S a x&&kE S b y)=true:=h;simp only [ak,dg] at h';exact aEC (fG Q a x h'.1.2) (fG Q b y h'.2) (aB5 h'.1.1)
  | _=>exact aW h
 | .sl a lo hi,e,h=>by
  cases e with
  | Subscript x y p =>
   cases y with
   | Slice l u st q =>
    cases st with
    | none =>
     have h':(kE S a x&&kO S lo l&&kO S hi u)=true:=h;simp only [ak] at h';exact anK (fG Q a x h'.1.1) (okO Q lo l h'.1.2) (okO Q hi u h'.2)
    | some _=>exact aW h
   | _=>exact aW h
  | _=>exact aW h
 | .call k es,e,h=>by
  cases e with
  | Call f xs kws p =>
   cases f with
   | Name x q =>
    cases kws with
    | nil =>
     have h':(uQ S es xs&&S.gv[k]? == some true&&adT S k x (!xs.isEmpty))=true:=h;simp only [ak] at h';exact aoL Q (okA Q es xs h'.1.1) h'.1.1 (beq_iff_eq.mp h'.1.2) h'.2
    | cons _ _=>exact aW h
   | _=>exact aW h
  | _=>exact aW h
 | .meth m o .nil,e,h=>by
  cases e with
  | Call f xs kws p =>
   cases f with
   | Attribute y n ap =>
    cases kws with
    | nil =>
     have h':(n == mkN m&&oX y&&ap.endLine == p.line&&decide (xs.length < 30)&&kE S o y&&uQ S .nil xs)=true:=h;simp only [ak] at h';obtain ⟨⟨⟨⟨⟨h1,h2⟩,h3⟩,h4⟩,h5⟩,h6⟩:=h';have:=beq_iff_eq.mp h1;subst this;cases xs with
     | nil=>exact aoK (fG Q o y h5) h2 h3
     | cons _ _=>exact aW h6
    | cons _ _=>exact aW h
   | _=>exact aW h
  | _=>exact aW h
 | .meth m o (.cons c r),e,h=>by
  cases e with
  | Call f xs kws p =>
   cases f with
   | Attribute y n ap =>
    cases kws with
    | nil =>
     have h':(n == mkN m&&oX y&&ap.endLine == p.line&&decide (xs.length < 30)&&kE S o y&&uQ S (.cons c r) xs)=true:=h;simp only [ak] at h';obtain ⟨⟨⟨⟨⟨h1,h2⟩,h3⟩,h4⟩,h5⟩,h6⟩:=h';have:=beq_iff_eq.mp h1;subst this;cases xs with
     | nil=>exact aW h6
     | cons x xs =>
      have h7:(!isStar x&&kE S c x&&uQ S r xs)=true:=h6;simp only [ak,dg] at h7;exact ajV (fG Q o y h5) (rQ (fG Q c x h7.1.2) (okA Q r xs h7.2) (bK h7.1.1)) h2 h3 h6 (of_decide_eq_true h4)
    | cons _ _=>exact aW h
   | _=>exact aW h
  | _=>exact aW h
 | .comp fl gv ci cc c,e,h=>by
  cases e with
  | ListComp elt gens scope p =>
   cases gens with
   | nil=>exact aW h
   | cons g gr =>
    cases gr with
    | cons _ _=>obtain ⟨tg,it,ifs,a⟩:=g;cases tg <;> exact aW h
    | nil =>
     obtain ⟨tg,it,ifs,a⟩:=g;cases tg with
     | Name x px =>
      have h':(a == 0&&uY S [x] scope fl gv&&!isSet it&&kI S false ci it&&kC (S.cmp [x] fl gv) cc ifs&&kE (S.cmp [x] fl gv) c elt)=true:=h;simp only [ak,dg] at h';obtain ⟨⟨⟨⟨⟨h2,h3⟩,h4⟩,h5⟩,h6⟩,h7⟩:=h';have:=beq_iff_eq.mp h2;subst this;exact a6M (iB Q h3) (fun C s H fp pins σ=>auR (iB Q h3) Q.nd) aiA (okI (tt:=false) Q (fun z=>nomatch z) ci it h5) (fun C s H fp pins=>okC (Q.cmp h3 C s H fp pins) cc ifs h6) (fun C s H fp pins=>fG (Q.cmp h3 C s H fp pins) c elt h7) (a9P h4)
     | _=>exact aW h
  | _=>exact aW h
 | .zQ n fl gv ci cc c,e,h=>by
  cases e with
  | ListComp elt gens scope p =>
   cases gens with
   | nil=>exact aW h
   | cons g gr =>
    cases gr with
    | cons _ _=>obtain ⟨tg,it,ifs,a⟩:=g;cases tg <;> exact aW h
    | nil =>
     obtain ⟨tg,it,ifs,a⟩:=g;cases tg with
     | Tuple es k tp =>
      have h':(S.calm&&a == 0&&(match sV es with
       | some xs=>xs.length == n&&uY S xs scope fl gv&&!isSet it&&kI S true ci it&&kC (S.cmp xs fl gv) cc ifs&&kE (S.cmp xs fl gv) c elt
       | none=>false))=true:=h
      rw [ak,ak] at h';obtain ⟨⟨h1,h2⟩,h'⟩:=h';have:=beq_iff_eq.mp h2;subst this;cases q:sV es with
      | none=>rw [q] at h';exact aW h'
      | some xs =>
       rw [q] at h';simp only [ak,dg] at h';obtain ⟨⟨⟨⟨⟨h0,h3⟩,h4⟩,h5⟩,h6⟩,h7⟩:=h';have:=beq_iff_eq.mp h0;subst this;exact a6M (iB Q h3) (fun C s H fp pins σ=>aiB (iB Q h3) Q.nd (Q.cm h1) (a1U q)) (fun d ds e=>(a6L e).2) (okI (tt:=true) Q (fun _=>⟨Q.cm h1,_,_,_,rfl⟩) ci it h5) (fun C s H fp pins=>okC (Q.cmp h3 C s H fp pins) cc ifs h6) (fun C s H fp pins=>fG (Q.cmp h3 C s H fp pins) c elt h7) (a9P h4)
     | _=>exact aW h
  | _=>exact aW h
 | .maxD k c d,e,h=>by
  cases e with
  | Call f as ks p =>
   cases f with
   | Name x q =>
    match as,ks,h with
    | [],_,h=>exact aW h
    | _ :: _ :: _,_,h=>exact aW h
    | [_],[],h=>exact aW h
    | [_],⟨none,_,_⟩ :: _,h=>exact aW h
    | [_],⟨some _,_,_⟩ :: _ :: _,h=>exact aW h
    | [y],[⟨some n,z,kp⟩],h =>
     have h':(n == ("default" : Str)&&S.calm&&S.gv[k]? == some true&&adS S k x&&!isStar y&&kE S c y&&kE S d z)=true:=h;simp only [ak,dg] at h';obtain ⟨⟨⟨⟨⟨⟨h0,h1⟩,h2⟩,h3⟩,h4⟩,h5⟩,h6⟩:=h';have:=beq_iff_eq.mp h0;subst this;obtain ⟨g1,g2,g3,g4,g5⟩:=ajX Q h3 (beq_iff_eq.mp h2);exact auZ (Q.cm h1) g1 g2 g3 (fG Q c y h5) (fG Q d z h6) g4 g5 (bK h4)
   | _=>exact aW h
  | _=>exact aW h
 | .eqd neg a b,e,h=>by
  cases e with
  | Compare x ops ys p =>
   match ops,ys,h with
   | [o'],[y],h =>
    have h':(o' == (if neg then CmpOp.NotEq else CmpOp.Eq)&&kE S a x&&kE S b y)=true:=h;simp only [ak] at h'
    have hb:behindInMarks o' y=false:=by
     have:=beq_iff_eq.mp h'.1.1;subst this;exact a0O _ (by cases neg <;> decide) (by cases neg <;> decide)
    exact aqE (adV Q.hu h'.1.1) (fG Q a x h'.1.2) (fG Q b y h'.2) hb
   | [],_,h=>exact aW h
   | _ :: _ :: _,_,h=>exact aW h
   | [_],[],h=>exact aW h
   | [_],_ :: _ :: _,h=>exact aW h
  | _=>exact aW h
theorem okA {X:Cx} {S:SI} {ex:aN->aV} (Q:gZ X S ex):∀ (c:CEs) (es:List Expr),uQ S c es=true->PA3 X es (mA S.gl X.K ex c)
 | .nil,es,h=>by
  cases es with
  | nil=>exact a4L
  | cons _ _=>exact aW h
 | .cons c r,es,h=>by
  cases es with
  | nil=>exact aW h
  | cons x xs =>
   have h7:(!isStar x&&kE S c x&&uQ S r xs)=true:=h;simp only [ak,dg] at h7;exact rQ (fG Q c x h7.1.2) (okA Q r xs h7.2) (bK h7.1.1)
theorem ar9 {X:Cx} {S:SI} {ex:aN->aV} (Q:gZ X S ex):∀ (c:CEs) (es:List Expr) (p:Pos),uQ S c es=true->cM X (.BoolOp .And es p) (avO S.gl X.K ex c)
 | .nil,es,p,h=>ajT
 | .cons c .nil,es,p,h=>by
  match es,h with
  | [],h=>exact aW h
  | [x],h =>
   have h7:(!isStar x&&kE S c x&&uQ S .nil [])=true:=h;simp only [ak,dg] at h7;exact aqH (fG Q c x h7.1.2)
  | x :: y :: ys,h =>
   have h7:(!isStar x&&kE S c x&&uQ S .nil (y :: ys))=true:=h;simp only [ak,dg] at h7;exact aW h7.2
 | .cons c (.cons c' r),es,p,h=>by
  match es,h with
  | [],h=>exact aW h
  | [x],h =>
   have h7:(!isStar x&&kE S c x&&uQ S (.cons c' r) [])=true:=h;simp only [ak,dg] at h7;exact aW h7.2
  | x :: y :: ys,h =>
   have h7:(!isStar x&&kE S c x&&uQ S (.cons c' r) (y :: ys))=true:=h;simp only [ak,dg] at h7;exact azB (fG Q c x h7.1.2) (ar9 Q (.cons c' r) (y :: ys) p h7.2)
theorem aFF {X:Cx} {S:SI} {ex:aN->aV} (Q:gZ X S ex):∀ (c:CEs) (es:List Expr) (p:Pos),uQ S c es=true->cM X (.BoolOp .Or es p) (mOr S.gl X.K ex c)
 | .nil,es,p,h=>ajT
 | .cons c .nil,es,p,h=>by
  match es,h with
  | [],h=>exact aW h
  | [x],h =>
   have h7:(!isStar x&&kE S c x&&uQ S .nil [])=true:=h;simp only [ak,dg] at h7;exact aqH (fG Q c x h7.1.2)
  | x :: y :: ys,h =>
   have h7:(!isStar x&&kE S c x&&uQ S .nil (y :: ys))=true:=h;simp only [ak,dg] at h7;exact aW h7.2
 | .cons c (.cons c' r),es,p,h=>by
  match es,h with
  | [],h=>exact aW h
  | [x],h =>
   have h7:(!isStar x&&kE S c x&&uQ S (.cons c' r) [])=true:=h;simp only [ak,dg] at h7;exact aW h7.2
  | x :: y :: ys,h =>
   have h7:(!isStar x&&kE S c x&&uQ S (.cons c' r) (y :: ys))=true:=h;simp only [ak,dg] at h7;exact aE7 (fG Q c x h7.1.2) (aFF Q (.cons c' r) (y :: ys) p h7.2)
theorem okT {X:Cx} {S:SI} {ex:aN->aV} (Q:gZ X S ex):∀ (c:CT) (e:Expr),kT S c e=true->PT3 X e (mT S.gl X.K ex c)
 | .cmp o a b,e,h=>by
  cases e with
  | Compare x ops ys p =>
   match ops,ys,h with
   | [o'],[y],h =>
    have h':(o == o'&&!behindInMarks o' y&&kE S a x&&kE S b y)=true:=h;simp only [ak,dg] at h';have:=beq_iff_eq.mp h'.1.1.1;subst this;exact aqF (uO Q.hu) (fG Q a x h'.1.2) (fG Q b y h'.2) h'.1.1.2
   | [],_,h=>exact aW h
   | _ :: _ :: _,_,h=>exact aW h
   | [_],[],h=>exact aW h
   | [_],_ :: _ :: _,h=>exact aW h
  | _=>exact aW h
 | .chain o o' a b c,e,h=>by
  cases e with
  | Compare x ops ys p =>
   match ops,ys,h with
   | [p1,p2],[y,z],h =>
    have h':(o == p1&&o' == p2&&!lastMarks [p1,p2] [y,z]&&kE S a x&&kE S b y&&kE S c z)=true:=h;simp only [ak,dg] at h';have e1:=beq_iff_eq.mp h'.1.1.1.1.1;have e2:=beq_iff_eq.mp h'.1.1.1.1.2;subst e1;subst e2;exact an5 (uO Q.hu) (uO Q.hu) (fG Q a x h'.1.1.2) (fG Q b y h'.1.2) (fG Q c z h'.2) h'.1.1.1.2
   | [],_,h=>exact aW h
   | [_],_,h=>exact aW h
   | _ :: _ :: _ :: _,_,h=>exact aW h
   | [_,_],[],h=>exact aW h
   | [_,_],[_],h=>exact aW h
   | [_,_],_ :: _ :: _ :: _,h=>exact aW h
  | _=>exact aW h
 | .not t,e,h=>by
  cases e with
  | UnaryOp op x p =>
   cases op with
   | Not=>exact azA (okT Q t x h)
   | _=>exact aW h
  | _=>exact aW h
 | .and ts,e,h=>by
  cases e with
  | BoolOp op xs p =>
   cases op with
   | And=>exact PW.pt (ajY Q ts xs p h)
   | Or=>exact aW h
  | _=>exact aW h
 | .or ts,e,h=>by
  cases e with
  | BoolOp op xs p =>
   cases op with
   | Or=>exact PW.pt (arB Q ts xs p h)
   | And=>exact aW h
  | _=>exact aW h
 | .eqd neg a b,e,h=>by
  cases e with
  | Compare x ops ys p =>
   match ops,ys,h with
   | [o'],[y],h =>
    have h':(o' == (if neg then CmpOp.NotEq else CmpOp.Eq)&&kE S a x&&kE S b y)=true:=h;simp only [ak] at h'
    have hb:behindInMarks o' y=false:=by
     have:=beq_iff_eq.mp h'.1.1;subst this;exact a0O _ (by cases neg <;> decide) (by cases neg <;> decide)
    exact aqF (adV Q.hu h'.1.1) (fG Q a x h'.1.2) (fG Q b y h'.2) hb
   | [],_,h=>exact aW h
   | _ :: _ :: _,_,h=>exact aW h
   | [_],[],h=>exact aW h
   | [_],_ :: _ :: _,h=>exact aW h
  | _=>exact aW h
 | .val c,e,h=>by
  have h':(plainT e&&kE S c e)=true:=h;rw [ak] at h';exact az6 (fG Q c e h'.2) (avU h'.1)
theorem ajY {X:Cx} {S:SI} {ex:aN->aV} (Q:gZ X S ex):∀ (c:CTs) (es:List Expr) (p:Pos),kTs S c es=true->PW3 X (.BoolOp .And es p) (ajP S.gl X.K ex c)
 | .nil,es,p,h=>fun _ _ _ _ _ _ _ ⟨_,_,_,_,_,z,_⟩=>z.elim
 | .cons c .nil,es,p,h=>by
  match es,h with
  | [],h=>exact aW h
  | [x],h =>
   have h7:(kT S c x&&kTs S .nil [])=true:=h;simp only [ak] at h7;exact atV (okT Q c x h7.1)
  | x :: y :: ys,h =>
   have h7:(kT S c x&&kTs S .nil (y :: ys))=true:=h;simp only [ak] at h7;exact aW h7.2
 | .cons c (.cons c' r),es,p,h=>by
  match es,h with
  | [],h=>exact aW h
  | [x],h =>
   have h7:(kT S c x&&kTs S (.cons c' r) [])=true:=h;simp only [ak] at h7;exact aW h7.2
  | x :: y :: ys,h =>
   have h7:(kT S c x&&kTs S (.cons c' r) (y :: ys))=true:=h;simp only [ak] at h7;exact az9 (okT Q c x h7.1) (ajY Q (.cons c' r) (y :: ys) p h7.2)
theorem arB {X:Cx} {S:SI} {ex:aN->aV} (Q:gZ X S ex):∀ (c:CTs) (es:List Expr) (p:Pos),kTs S c es=true->PW3 X (.BoolOp .Or es p) (avP S.gl X.K ex c)
 | .nil,es,p,h=>fun _ _ _ _ _ _ _ ⟨_,_,_,_,_,z,_⟩=>z.elim
 | .cons c .nil,es,p,h=>by
  match es,h with
  | [],h=>exact aW h
  | [x],h =>
   have h7:(kT S c x&&kTs S .nil [])=true:=h;simp only [ak] at h7;exact az8 (okT Q c x h7.1)
  | x :: y :: ys,h =>
   have h7:(kT S c x&&kTs S .nil (y :: ys))=true:=h;simp only [ak] at h7;exact aW h7.2
 | .cons c (.cons c' r),es,p,h=>by
  match es,h with
  | [],h=>exact aW h
  | [x],h =>
   have h7:(kT S c x&&kTs S (.cons c' r) [])=true:=h;simp only [ak] at h7;exact aW h7.2
  | x :: y :: ys,h =>
   have h7:(kT S c x&&kTs S (.cons c' r) (y :: ys))=true:=h;simp only [ak] at h7;exact aE6 (okT Q c x h7.1) (arB Q (.cons c' r) (y :: ys) p h7.2)
theorem okO {X:Cx} {S:SI} {ex:aN->aV} (Q:gZ X S ex):∀ (c:CO) (e:Option Expr),kO S c e=true->PO3 X e (mO S.gl X.K ex c)
 | .none,e,h=>by
  cases e with
  | none=>exact au0
  | some _=>exact aW h
 | .some c,e,h=>by
  cases e with
  | none=>exact aW h
  | some x=>exact au1 (fG Q c x h)
theorem okI {X:Cx} {S:SI} {ex:aN->aV} (Q:gZ X S ex) {tg:Expr} {tt:Bool} (htt:tt=true->X.calm=true/\∃ es kt pt,tg = .Tuple es kt pt):∀ (c:CI) (e:Expr),kI S tt c e=true->PI3 X tg e (mI S.gl X.K ex c)
 | .any c,e,h=>aA2 (fG Q c e h)
 | .a9N c,e,h=>by
  cases e with
  | Call f as ks p =>
   cases f with
   | Name r q =>
    cases as with
    | nil=>exact aW h
    | cons y yr =>
     cases yr with
     | cons _ _=>exact aW h
     | nil =>
      cases ks with
      | cons _ _=>exact aW h
      | nil =>
       have h':(r == ("range" : Str)&&xC S&&!isStar y&&kE S c y)=true:=h;simp only [ak,dg] at h';obtain ⟨⟨⟨h1,h2⟩,h3⟩,h4⟩:=h';have:=beq_iff_eq.mp h1;subst this;obtain ⟨g1,g2⟩:=a9O Q h2;exact auO g1 g2 (rQ (fG Q c y h4) a4L (bK h3)) (bK h3)
   | _=>exact aW h
  | _=>exact aW h
 | .enu c,e,h=>fun _ _ _ _ _ _ ⟨_,_,_,_,_,z,_⟩=>z.elim
theorem okD {X:Cx} {S:SI} {ex:aN->aV} (Q:gZ X S ex) {pos:Pos}:∀ (cs:CEs) (ks:List Str) (keys:List (Option Expr)) (vs:List Expr),uQ S cs vs=true->ajS ks keys=true->keys.length=vs.length->PDs X pos keys vs ks (mA S.gl X.K ex cs)
 | .nil,ks,keys,vs,h,h2,h3=>by
  cases vs with
  | cons _ _=>exact aW h
  | nil =>
  cases keys with
  | cons _ _=>cases h3
  | nil =>
  cases ks with
  | cons _ _=>exact aW h2
  | nil=>exact ao5
 | .cons c cs,ks,keys,vs,h,h2,h3=>by
  cases vs with
  | nil=>exact aW h
  | cons v vs =>
  have h':(!isStar v&&kE S c v&&uQ S cs vs)=true:=h;simp only [ak] at h';cases keys with
  | nil=>cases h3
  | cons ke keys =>
  cases ks with
  | nil=>exact aW h2
  | cons k ks =>
  cases ke with
  | none=>exact aW h2
  | some e =>
  cases e with
  | Constant cc j p =>
   cases cc with
   | str k' =>
    have h2':(k == k'&&ajS ks keys)=true:=h2;rw [ak] at h2';have e0:=beq_iff_eq.mp h2'.1;subst e0;exact aiW (fG Q c v h'.1.2) (okD Q cs ks keys vs h'.2 h2'.2 (Nat.succ.inj h3))
   | _=>exact aW h2
  | _=>exact aW h2
theorem okC {X:Cx} {S:SI} (Q:gZ X S NoX):∀ (c:CC) (es:List Expr),kC S c es=true->afP X es (mC S.gl X.K c)
 | .none,es,h=>by
  cases es with
  | nil=>exact anO
  | cons _ _=>exact aW h
 | .some t,es,h=>by
  match es,h with
  | [],h=>exact aW h
  | [x],h=>exact anP (okT Q t x h)
  | _ :: _ :: _,h=>exact aW h
end
end L4
namespace L4
open PySem PySem.Spec PyProof.Rows L2
inductive CTg where
 | nm (i:Nat) | tup (is:List Nat)
mutual
inductive CS where
 | ret (e:CE) | expr (e:CE) | ifs (t:CT) (a b:CB) | set (i:Nat) (e:CE) | abX (o i e:CE)
 | raise (k:Nat) (e:CE) (es:CEs) | pass
 | a3T (ci:CI) (tg:CTg) (b:CB)
 | adW (i n:Nat) (fl gv:List Bool) (ci:CI) (cc:CC) (e:CE) | ag3 (is:List Nat) (e:CE) | aug (i:Nat) (neg:Bool) (e:CE) | aoN (o i:CE) (neg:Bool) (e:CE) | hid (i:Nat) (nm:Str) (s:CS)
inductive CB where
 | nil | cons (s:CS) (r:CB)
end
noncomputable def aB7:bH:=fun _ _ _=>False
noncomputable abbrev SI.han (S:SI):SI:={ S with calm:=false,need:=false }
noncomputable abbrev SI.hid (S:SI) (i:Nat) (nm:Str):SI:={ S with N:=S.N.set i nm,fl:=S.fl.set i false,lc:=S.lc.set i false,ce:=S.ce.set i false }
noncomputable def mIS (T:List (Str×GT)) (K:Fg) (ex:aN->aV):CI->TI3
 | .any e=>a6O (mE T K ex e)
 | .a9N e=>sH (aB (mE T K ex e) aD)
 | .enu e=>a6X (aB (mE T K ex e) aD)
noncomputable def mG:CTg->TG3
 | .nm i=>vR i
 | .tup is=>uW is
noncomputable def aoO:Bool->Int->Int->Int
 | true=>fun a b=>a - b
 | false=>fun a b=>a+b
noncomputable def aoP (T:List (Str×GT)) (ex:aN->aV) (k:Nat) (t:pK):bH:=match T[k]? with
 | some (_,.cls a)=>a6C ex a t
 | _=>aB7
noncomputable def adX (S:SI) (k:Nat) (x:Str):Bool:=match S.gl[k]? with
 | some (z,.cls _)=>z == x
 | _=>false
mutual
noncomputable def mS (T:List (Str×GT)) (K:Fg) (ex:aN->aV):CS->bH
 | .ret e=>cD (mE T K ex e)
 | .expr e=>jA (mE T K ex e)
 | .ifs t a b=>cP (mT T K ex t) (mB T K ex a) (mB T K ex b)
 | .set i e=>bO i (mE T K ex e)
 | .abX o i e=>vN (mE T K ex o) (mE T K ex i) (mE T K ex e)
 | .raise k e es=>aoP T ex k (aB (mE T K ex e) (mA T K ex es))
 | .a3T ci tg b=>jC (mIS T K ex ci) (mG tg) (mB T K ex b)
 | .adW i n _ _ ci cc e=>bO i (mZ n (mI T K ex ci) (mC T K cc) (mE T K NoX e))
 | .ag3 is e=>yX is (mE T K ex e)
 | .aug i neg e=>ad5 i (aoO neg) (mE T K ex e)
 | .aoN o i neg e=>a74 (mE T K ex o) (mE T K ex i) (mE T K ex e) (if neg then fun a b=>a - b else fun a b=>a+b)
 | .hid i _ s=>a9A i (mS T K (fun ρ=>ex (pP ρ i)) s)
 | .pass=>bU
noncomputable def mB (T:List (Str×GT)) (K:Fg) (ex:aN->aV):CB->bH
 | .nil=>bU
 | .cons s .nil=>mS T K ex s
 | .cons s (.cons s' r)=>aM (mS T K ex s) (mB T K ex (.cons s' r))
end
noncomputable def isTup:Expr->Bool
 | .Tuple ..=>true
 | _=>false
noncomputable def o7:Expr->Bool
 | .ListComp ..=>true
 | .SetComp ..=>true
 | .DictComp ..=>true
 | _=>false
noncomputable def kTg (S:SI):CTg->Expr->Bool
 | .nm i,.Name x _=>S.N[i]? == some x&&S.fl[i]? == some true
 | .tup is,.Tuple es _ _=>kNs S is es
 | _,_=>false
where
 kNs (S:SI):List Nat->List Expr->Bool
 | [],[]=>true
 | i :: is,.Name x _ :: es=>S.N[i]? == some x&&S.fl[i]? == some true&&kNs S is es
 | _,_=>false
noncomputable def aoQ (S:SI):CTg->Bool
 | .nm _=>true
 | .tup _=>S.calm
mutual
noncomputable def kS (S:SI) (lv:Nat):CS->Stmt->Bool
 | .ret e,.Return (some x) _=>kE S e x
 | .expr e,.Expr x _=>!o7 x&&kE S e x
 | .ifs t a b,.If x y z _=>kT S t x&&kB S lv a y&&kB S lv b z
 | .set i e,.Assign [.Name x _] y _=>S.N[i]? == some x&&S.fl[i]? == some true&&!o7 y&&kE S e y
 | .abX o i e,.Assign [.Subscript x y _] z _=>!isSlice y&&!o7 z&&kE S o x&&kE S i y&&kE S e z
 | .raise k e es,.Raise (some (.Call (.Name x _) (y :: ys) [] _)) none _=>lv == 0&&S.calm&&!isStar y&&kE S e y&&uQ S es ys&&S.gv[k]? == some true&&adX S k x
 | .adW i n fl gv ci cc e,.Assign [.Name y _] (.ListComp elt [⟨.Tuple es _ _,iter,ifs,a⟩] scope _) _=>S.calm&&S.N[i]? == some y&&S.fl[i]? == some true&&a == 0&&(match sV es with
  | some xs=>xs.length == n&&uY S xs scope fl gv&&!isSet iter&&kI S true ci iter&&kC (S.cmp xs fl gv) cc ifs&&kE (S.cmp xs fl gv) e elt
  | none=>false)
 | .ag3 is e,.Assign [.Tuple es _ _] y _=>S.calm&&!isTup y&&!o7 y&&kTg.kNs S is es&&kE S e y
 | .aug i neg e,.AugAssign (.Name x _) o y _=>S.N[i]? == some x&&S.fl[i]? == some true&&o == (if neg then Operator.Sub else Operator.Add)&&kE S e y
 | .aoN o i neg e,.AugAssign (.Subscript x y _) op z _=>op == (if neg then Operator.Sub else Operator.Add)&&!isSlice y&&kE S o x&&kE S i y&&kE S e z
 | .hid i nm s,st=>!S.N.contains nm&&kS (S.hid i nm) lv s st
 | .a3T ci tg b,.For tgt iter body [] _=>lv != 1&&aoQ S tg&&!isSet iter&&kTg S tg tgt&&kI S (isTup tgt&&S.calm) ci iter&&kB S lv b body
 | .pass,.Pass _=>true
 | _,_=>false
noncomputable def kB (S:SI) (lv:Nat):CB->List Stmt->Bool
 | .nil,[]=>true
 | .cons s r,x :: xs=>kS S lv s x&&kB S lv r xs
 | _,_=>false
end
structure a1V (X:Cx) (S:SI) (ex:aN->aV) (lv:Nat):Prop where
 si:gZ X S ex
 loc:∀ (i:Nat) (x:Str),S.N[i]?=some x->S.fl[i]?=some true->Loc X.env.scope x
 lcl:∀ (i:Nat) (x:Str),S.N[i]?=some x->S.lc[i]?=some true->X.env.kindOf x=some .local
 fn:∀ (i:Nat) (x:Str),S.N[i]?=some x->S.fl[i]?=some true->X.fn x=true
 cls:∀ (k:Nat) (x:Str) (a:Addr),S.gl[k]?=some (x,.cls a)->S.gv[k]?=some true->uq X.K a BMv "ValueError.__new__" = true/\(xg X.K a).isSome=true/\PySem.W.typeIn X.K (.ref a)=some (.type "type")/\PySem.W.subIn X.K (.ref a) (.type "BaseException")=some true
 l0:lv≠1->PassesOwn (model X.prog X.w) X.A X.env X.xe
 rz:lv=0->S.calm=true->Thr X ex
 stk:X.stack=X.env :: X.outer
 frm:X.env.frame=some X.env.locals
variable {e:Expr}{env:Env}
theorem adY {t:Option Expr} {n:Nat} (h:o7 e=false):swapsWith e t n env=pure false:=by
 cases e <;> first | rfl | exact absurd (show true=false from h) (by decide)
variable {y:Expr}
theorem adZ (h:isSlice y=false) (ov iv new:Value):augStore y ov iv new=(do holding [new,ov,iv] (setItem ov iv new);release [new,ov,iv] [];pure .next):=by
 cases y <;> first | rfl | (cases h)
theorem aoR {o i:Expr} {p:Pos} (h:isSlice i=false):∀ v,assign (.Subscript o i p) env v=(do
   let ov ← holding [v] (eval o env)
   let iv ← holding [v,ov] (eval i env)
   standAt p
   holding [v,ov,iv] (setItem ov iv v)
   release [v,ov,iv] []):=by
 cases i <;> first | (intro _;rfl) | exact absurd (show true=false from h) (by decide)
theorem avX {es:List Expr} {k:Nat} {tp:Pos} (h:isTup e=false):swappedStores [.Tuple es k tp] e env=pure none:=by
 cases e <;> first | rfl | exact absurd (show true=false from h) (by decide)
theorem aoS {o i:Expr} {p:Pos}:swappedStores [.Subscript o i p] e env=pure none:=by cases e <;> rfl
theorem aoT {o i:Expr} {p:Pos} {n:Nat} (h:o7 e=false):swapsWithSole [.Subscript o i p] e n env=pure false:=by
 show swapsWith e (some (.Subscript o i p)) n env=pure false;exact adY h
variable {X:Cx}{S:SI}{ex:aN->aV}{lv:Nat}
theorem a1V.ha (Q:a1V X S ex lv) (x:Addr):a1V (aEE X x) S.han NoX 2 where
 si:=⟨Q.si.N,Q.si.nd,Q.si.vis,Q.si.ce,fun k y g h=>by
  obtain ⟨h1,h2,h3,h4⟩:=Q.si.gm k y g h;refine ⟨h1,h2,h3,?_⟩;cases g with
  | fn sp n qt =>
   intro z;have hq:qt=true:=z.resolve_right (show ¬ (false=true) by decide);subst hq;obtain ⟨k,f,fd,ps,F,hr,r⟩:=h4 (.inl rfl);exact ⟨k,f,fd,ps,F,⟨(fun z=>nomatch z),hr.dp,hr.un⟩,r⟩
  | kl C sp dd=>exact fun z=>nomatch z
  | me C m sp dd=>exact fun z=>nomatch z
  | clo c sp=>exact fun z=>nomatch z
  | fnP sp n=>exact fun z=>nomatch z
  | _=>exact h4,Q.si.hu,fun z=>absurd (show false=true from z) (by decide),ajW,fun z=>nomatch z⟩
 loc:=Q.loc
 lcl:=Q.lcl
 fn:=Q.fn
 cls:=Q.cls
 l0:=fun _=>PassesOwn.never
 rz:=fun z=>absurd z (by decide)
 stk:=Q.stk
 frm:=Q.frm
theorem ajZ {k:Nat} {x:Str} (h:adX S k x=true):∃ a,S.gl[k]?=some (x,.cls a):=by
 unfold adX at h;split at h
 ·rename_i z a hg;have:=beq_iff_eq.mp h;subst this;exact ⟨a,hg⟩
 ·exact aW h
theorem aoU {T:List (Str×GT)} {k:Nat} {x:Str} {a:Addr} {t:pK} (h:T[k]?=some (x,.cls a)):aoP T ex k t=a6C ex a t:=by unfold aoP;rw [h]
theorem ak0 (Q:a1V X S ex lv) {k:Nat} {e:CE} {es:CEs} {x:Str} {ys:List Expr} {np cp pos:Pos} (h:kS S lv (.raise k e es) (.Raise (some (.Call (.Name x np) (y :: ys) [] cp)) none pos)=true) :
  PS3 X (.Raise (some (.Call (.Name x np) (y :: ys) [] cp)) none pos) (aoP S.gl ex k (aB (mE S.gl X.K ex e) (mA S.gl X.K ex es))):=by
 have h':(lv == 0&&S.calm&&!isStar y&&kE S e y&&uQ S es ys&&S.gv[k]? == some true&&adX S k x)=true:=h;simp only [ak,dg] at h';obtain ⟨⟨⟨⟨⟨⟨h0,hcm⟩,h1⟩,h2⟩,h3⟩,hv⟩,h⟩:=h';have hv:=beq_iff_eq.mp hv;obtain ⟨a,hg⟩:=ajZ h;rw [aoU hg];have l1:=Q.si.cm hcm;have l2:=Q.rz (beq_iff_eq.mp h0) hcm;obtain ⟨g1,g2,g3,g4,g5⟩:=Q.si.gl _ _ _ hg hv;exact anE l1 PySem.F.excBase_ValueError (by decide) PySem.F.excBase_ValueError g1 g4 (Q.cls _ _ _ hg hv).1 l2 (rQ (fG Q.si e y h2) (okA Q.si es ys h3) (bK h1)) g2 (bK h1) (sW h3)
theorem abY {X:Cx} {S:SI} {ex:aN->aV} {lv:Nat} (Q:a1V X S ex lv):∀ {is:List Nat} {es:List Expr},kTg.kNs S is es=true->Two (anS X) es is
 | [],[],_ => .nil
 | [],_ :: _,h=>by exact aW h
 | _ :: _,[],h=>by exact aW h
 | i :: is,e :: es,h=>by
  cases e with
  | Name x p =>
   have h':(S.N[i]? == some x&&S.fl[i]? == some true&&kTg.kNs S is es)=true:=h;simp only [ak] at h';have e1:=beq_iff_eq.mp h'.1.1;exact .cons ⟨x,p,rfl,by rw [Q.si.N];exact e1,Q.loc i x e1 (beq_iff_eq.mp h'.1.2),.inl (Q.fn i x e1 (beq_iff_eq.mp h'.1.2))⟩ (abY Q h'.2)
  | _=>exact aW h
theorem arD (Q:a1V X S ex lv):∀ {c:CTg} {e:Expr},aoQ S c=true->kTg S c e=true->PG3 X e (mG c)
 | .nm i,e,_,h=>by
  cases e with
  | Name x p =>
   have h':(S.N[i]? == some x&&S.fl[i]? == some true)=true:=h;simp only [ak] at h';have e1:=beq_iff_eq.mp h'.1;exact auS Q.si.nd (by rw [Q.si.N];exact e1) (Q.loc i x e1 (beq_iff_eq.mp h'.2)) (.inl (Q.fn i x e1 (beq_iff_eq.mp h'.2)))
  | _=>exact aW h
 | .tup is,e,hc,h=>by
  cases e with
  | Tuple es k p=>exact aqP Q.si.nd (Q.si.cm hc) (abY Q h)
  | _=>exact aW h
theorem aFG (Q:gZ X S ex) {tg:Expr} {tt:Bool} (htt:tt=true->X.calm=true/\∃ es kt pt,tg = .Tuple es kt pt):∀ (c:CI) (e:Expr),kI S tt c e=true->PIS X tg e (mIS S.gl X.K ex c)
 | .any c,e,h=>aiG (fG Q c e h)
 | .a9N c,e,h=>by
  cases e with
  | Call f as ks p =>
   cases f with
   | Name r q =>
    cases as with
    | nil=>exact aW h
    | cons y yr =>
     cases yr with
     | cons _ _=>exact aW h
     | nil =>
      cases ks with
      | cons _ _=>exact aW h
      | nil =>
       have h':(r == ("range" : Str)&&xC S&&!isStar y&&kE S c y)=true:=h;simp only [ak,dg] at h';obtain ⟨⟨⟨h1,h2⟩,h3⟩,h4⟩:=h';have:=beq_iff_eq.mp h1;subst this;obtain ⟨g1,g2⟩:=a9O Q h2;exact anU g1 g2 (rQ (fG Q c y h4) a4L (bK h3)) (bK h3)
   | _=>exact aW h
  | _=>exact aW h
 | .enu c,e,h=>by
  have h':(tt&&(match xD e with
   | some (r,y)=>r == ("enumerate" : Str)&&a76 S&&!isStar y&&kE S c y
   | none=>false))=true:=h
  rw [ak] at h';obtain ⟨h0,h4⟩:=h';cases q2:xD e with
  | none=>rw [q2] at h4;exact aW h4
  | some z =>
   obtain ⟨r,y⟩:=z;rw [q2] at h4;simp only [ak,dg] at h4;obtain ⟨⟨⟨h5,h6⟩,h7⟩,h8⟩:=h4;have e5:=beq_iff_eq.mp h5;subst e5;obtain ⟨p,pos,rfl⟩:=abW q2;obtain ⟨g1,g2,g3⟩:=aoM Q h6;obtain ⟨hc,es,kt,pt,rfl⟩:=htt h0;exact ao4 hc g1 g2 g3 (rQ (fG Q c y h8) a4L (bK h7)) (bK h7)
theorem a1W {i j:Nat} {l:List Bool} (h:(l.set i false)[j]?=some true):i≠j/\l[j]?=some true:=by
 by_cases c:i=j
 ·subst c;by_cases k:i < l.length
  ·rw [a0h k] at h;cases h
  ·rw [List.getElem?_eq_none (by rw [a0t];omega)] at h;cases h
 ·rw [kj c] at h;exact ⟨c,h⟩
theorem avY {i:Nat} {nm:Str} (Q:gZ X S ex) (n:nm ∉ S.N):gZ (a6U X i nm) (S.hid i nm) (fun ρ=>ex (pP ρ i)) where
 N:=by show X.N.set i _=S.N.set i _;rw [Q.N]
 nd:=a1M Q.nd (by rw [Q.N];exact n)
 vis:=fun j x e1 e2=>by
  obtain ⟨c,e2⟩:=a1W e2;have e1:(S.N.set i nm)[j]?=some x:=e1;rw [kj c] at e1;exact Q.vis j x e1 e2
 ce:=fun j x e1 e2=>by
  obtain ⟨c,e2⟩:=a1W e2;have e1:(S.N.set i nm)[j]?=some x:=e1;rw [kj c] at e1;exact Q.ce j x e1 e2
 gm:=fun k x g e=>by
  obtain ⟨a,b,c,d⟩:=Q.gm k x g e;refine ⟨a,b,c,?_⟩;cases g <;> exact d
 hu:=Q.hu
 cm:=Q.cm
 cat:=aiT Q.cat
 nk:=Q.nk
theorem avZ {i:Nat} {nm:Str} (Q:a1V X S ex lv) (n:nm ∉ S.N):a1V (a6U X i nm) (S.hid i nm) (fun ρ=>ex (pP ρ i)) lv where
 si:=avY Q.si n
 loc:=fun j x e1 e2=>by
  obtain ⟨c,e2⟩:=a1W e2;have e1:(S.N.set i nm)[j]?=some x:=e1;rw [kj c] at e1;exact Q.loc j x e1 e2
 lcl:=fun j x e1 e2=>by
  obtain ⟨c,e2⟩:=a1W e2;have e1:(S.N.set i nm)[j]?=some x:=e1;rw [kj c] at e1;exact Q.lcl j x e1 e2
 fn:=fun j x e1 e2=>by
  obtain ⟨c,e2⟩:=a1W e2;have e1:(S.N.set i nm)[j]?=some x:=e1;rw [kj c] at e1;exact Q.fn j x e1 e2
 cls:=Q.cls
 l0:=Q.l0
 rz:=fun a b=>aiU (Q.rz a b)
 stk:=Q.stk
 frm:=Q.frm
theorem ak1 (h:isTup e=true):∃ es kt pt,e = .Tuple es kt pt:=by
 cases e <;> first | exact ⟨_,_,_,rfl⟩ | exact aW h
mutual
theorem okS:∀ (c:CS) {X:Cx} {S:SI} {ex:aN->aV} {lv:Nat},a1V X S ex lv->∀ (st:Stmt),kS S lv c st=true->PS3 X st (mS S.gl X.K ex c)
 | .hid i nm c,X,S,ex,lv,Q,st,h=>by
  have h':(!S.N.contains nm&&kS (S.hid i nm) lv c st)=true:=by
   cases st <;> exact h
  rw [ak,dg] at h'
  exact av4 (okS c (avZ Q (by
   intro z;rw [List.contains_iff_mem.mpr z] at h';cases h'.1)) st h'.2)
 | .ret e,X,S,ex,lv,Q,st,h=>by
  cases st with
  | Return v p =>
   cases v with
   | some x=>exact azN (fG Q.si e x h)
   | none=>exact aW h
  | _=>exact aW h
 | .expr e,X,S,ex,lv,Q,st,h=>by
  cases st with
  | Expr x p =>
   have h':(!o7 x&&kE S e x)=true:=h;simp only [ak,dg] at h';exact au4 (fG Q.si e x h'.2) (adY h'.1)
  | _=>exact aW h
 | .ifs t a b,X,S,ex,lv,Q,st,h=>by
  cases st with
  | If x y z p =>
   have h':(kT S t x&&kB S lv a y&&kB S lv b z)=true:=h;simp only [ak] at h';exact aED (okT Q.si t x h'.1.1) (okB a Q y h'.1.2) (okB b Q z h'.2)
  | _=>exact aW h
 | .set i e,X,S,ex,lv,Q,st,h=>by
  cases st with
  | Assign ts y p =>
   cases ts with
   | nil=>exact aW h
   | cons t r =>
    cases r with
    | cons _ _=>cases t <;> exact aW h
    | nil =>
     cases t with
     | Name x q =>
      have h':(S.N[i]? == some x&&S.fl[i]? == some true&&!o7 y&&kE S e y)=true:=h;simp only [ak,dg] at h';have e1:=beq_iff_eq.mp h'.1.1.1;exact aqJ (i:=i) Q.si.nd (by rw [Q.si.N];exact e1) (Q.loc i x e1 (beq_iff_eq.mp h'.1.1.2)) (fG Q.si e y h'.2) (adY h'.1.2) (.inl (Q.fn i x e1 (beq_iff_eq.mp h'.1.1.2)))
     | _=>exact aW h
  | _=>exact aW h
 | .abX o i e,X,S,ex,lv,Q,st,h=>by
  cases st with
  | Assign ts z p =>
   cases ts with
   | nil=>exact aW h
   | cons t r =>
    cases r with
    | cons _ _=>cases t <;> exact aW h
    | nil =>
     cases t with
     | Subscript x y q =>
      have h':(!isSlice y&&!o7 z&&kE S o x&&kE S i y&&kE S e z)=true:=h;simp only [ak,dg] at h';obtain ⟨⟨⟨⟨h1,h2⟩,h3⟩,h4⟩,h5⟩:=h';exact au5 (fG Q.si o x h3) (fG Q.si i y h4) (fG Q.si e z h5) (aoR h1) (aoT h2) aoS rfl
     | _=>exact aW h
  | _=>exact aW h
 | .raise k e es,X,S,ex,lv,Q,st,h=>by
  cases st with
  | Raise a b p =>
   cases a with
   | none=>exact aW h
   | some a =>
    cases a with
    | Call f as ks q =>
     cases f with
     | Name x np =>
      cases as with
      | nil=>exact aW h
      | cons y ys =>
       cases ks with
       | cons _ _=>exact aW h
       | nil =>
        cases b with
        | some _=>exact aW h
        | none=>exact ak0 Q h
     | _=>exact aW h
    | _=>exact aW h
  | _=>exact aW h
 | .adW i n fl gv ci cc c,X,S,ex,lv,Q,st,h=>by
  cases st with
  | Assign ts z p =>
   cases ts with
   | nil=>exact aW h
   | cons t r =>
    cases r with
    | cons _ _=>cases t <;> exact aW h
    | nil =>
     cases t with
     | Name y q =>
      cases z with
      | ListComp elt gens scope pp =>
       cases gens with
       | nil=>exact aW h
       | cons g gr =>
        cases gr with
        | cons _ _=>obtain ⟨tg,it,ifs,a⟩:=g;cases tg <;> exact aW h
        | nil =>
         obtain ⟨tg,it,ifs,a⟩:=g;cases tg with
         | Tuple es k tp =>
          have h':(S.calm&&S.N[i]? == some y&&S.fl[i]? == some true&&a == 0&&(match sV es with
           | some xs=>xs.length == n&&uY S xs scope fl gv&&!isSet it&&kI S true ci it&&kC (S.cmp xs fl gv) cc ifs&&kE (S.cmp xs fl gv) c elt
           | none=>false))=true:=h
          rw [ak,ak,ak,ak] at h';obtain ⟨⟨⟨⟨h1,hy⟩,hy2⟩,h2⟩,h'⟩:=h';have:=beq_iff_eq.mp h2;subst this;have e1:=beq_iff_eq.mp hy;cases qn:sV es with
          | none=>rw [qn] at h';exact aW h'
          | some xs =>
           rw [qn] at h';simp only [ak,dg] at h';obtain ⟨⟨⟨⟨⟨h0,h3⟩,h4⟩,h5⟩,h6⟩,h7⟩:=h';have:=beq_iff_eq.mp h0;subst this;exact anR (i:=i) (iB Q.si h3) (fun C s H fp pins σ=>aiB (iB Q.si h3) Q.si.nd (Q.si.cm h1) (a1U qn)) (fun d ds e=>(a6L e).2) Q.si.nd (by rw [Q.si.N];exact e1) (Q.loc i y e1 (beq_iff_eq.mp hy2)) (Q.fn i y e1 (beq_iff_eq.mp hy2)) (okI (tt:=true) Q.si (fun _=>⟨Q.si.cm h1,_,_,_,rfl⟩) ci it h5) (fun C s H fp pins=>okC (Q.si.cmp h3 C s H fp pins) cc ifs h6) (fun C s H fp pins=>fG (Q.si.cmp h3 C s H fp pins) c elt h7) (a9P h4)
         | _=>exact aW h
      | _=>exact aW h
     | _=>exact aW h
  | _=>exact aW h
 | .ag3 is e,X,S,ex,lv,Q,st,h=>by
  cases st with
  | Assign ts y p =>
   cases ts with
   | nil=>exact aW h
   | cons t r =>
    cases r with
    | cons _ _=>cases t <;> exact aW h
    | nil =>
     cases t with
     | Tuple es k tp =>
      have h':(S.calm&&!isTup y&&!o7 y&&kTg.kNs S is es&&kE S e y)=true:=h;simp only [ak,dg] at h';obtain ⟨⟨⟨⟨h1,h2⟩,h3⟩,h4⟩,h5⟩:=h';exact auU (aqP Q.si.nd (Q.si.cm h1) (abY Q h4)) (fG Q.si e y h5) (show swapsWith y (some (.Tuple es k tp)) p.line X.env=pure false from adY h3) (avX h2) rfl
     | _=>exact aW h
  | _=>exact aW h
 | .aoN o i neg e,X,S,ex,lv,Q,st,h=>by
  cases st with
  | AugAssign t op z p =>
   cases t with
   | Subscript x y q =>
    have h':(op == (if neg then Operator.Sub else Operator.Add)&&!isSlice y&&kE S o x&&kE S i y&&kE S e z)=true:=h;simp only [ak,dg] at h';obtain ⟨⟨⟨⟨h1,h2⟩,h3⟩,h4⟩,h5⟩:=h';have:=beq_iff_eq.mp h1;subst this;cases neg with
    | true=>exact ajM (fG Q.si o x h3) (fG Q.si i y h4) (fG Q.si e z h5) asM (adZ h2)
    | false=>exact ajM (fG Q.si o x h3) (fG Q.si i y h4) (fG Q.si e z h5) asL (adZ h2)
   | _=>exact aW h
  | _=>exact aW h
 | .aug i neg e,X,S,ex,lv,Q,st,h=>by
  cases st with
  | AugAssign t o y p =>
   cases t with
   | Name x q =>
    have h':(S.N[i]? == some x&&S.fl[i]? == some true&&o == (if neg then Operator.Sub else Operator.Add)&&kE S e y)=true:=h;simp only [ak] at h';obtain ⟨⟨⟨h1,h2⟩,h3⟩,h4⟩:=h';have e1:=beq_iff_eq.mp h1;have:=beq_iff_eq.mp h3;subst this;cases neg with
    | true=>exact aqS (i:=i) Q.si.nd (by rw [Q.si.N];exact e1) (Q.loc i x e1 (beq_iff_eq.mp h2)) amJ (fG Q.si e y h4) (.inl (Q.fn i x e1 (beq_iff_eq.mp h2)))
    | false=>exact aqS (i:=i) Q.si.nd (by rw [Q.si.N];exact e1) (Q.loc i x e1 (beq_iff_eq.mp h2)) amI (fG Q.si e y h4) (.inl (Q.fn i x e1 (beq_iff_eq.mp h2)))
   | _=>exact aW h
  | _=>exact aW h
 | .a3T ci tg b,X,S,ex,lv,Q,st,h=>by
  cases st with
  | For tgt it body el p =>
   cases el with
   | cons _ _=>exact aW h
   | nil =>
    have h':(lv != 1&&aoQ S tg&&!isSet it&&kTg S tg tgt&&kI S (isTup tgt&&S.calm) ci it&&kB S lv b body)=true:=h;simp only [ak,dg] at h';obtain ⟨⟨⟨⟨⟨h1,hg⟩,h2⟩,h3⟩,h4⟩,h5⟩:=h';exact aiH (Q.l0 (bne_iff_ne.mp h1)) (aFG Q.si (fun z=>by rw [ak] at z;exact ⟨Q.si.cm z.2,ak1 z.1⟩) ci it h4) (arD Q hg h3) (okB b Q body h5) (a9P h2)
  | _=>exact aW h
 | .pass,X,S,ex,lv,Q,st,h=>by
  cases st with
  | Pass _=>exact au3
  | _=>exact aW h
theorem okB:∀ (c:CB) {X:Cx} {S:SI} {ex:aN->aV} {lv:Nat},a1V X S ex lv->∀ (st:List Stmt),kB S lv c st=true->yP X st (mB S.gl X.K ex c)
 | .nil,X,S,ex,lv,Q,st,h=>by
  cases st with
  | nil=>exact azL
  | cons _ _=>exact aW h
 | .cons s .nil,X,S,ex,lv,Q,st,h=>by
  match st,h with
  | [],h=>exact aW h
  | [x],h =>
   have h':(kS S lv s x&&kB S lv .nil [])=true:=h;rw [ak] at h';exact azM (okS s Q x h'.1)
  | x :: y :: ys,h =>
   have h':(kS S lv s x&&kB S lv .nil (y :: ys))=true:=h;rw [ak] at h';exact aW h'.2
 | .cons s (.cons s' r),X,S,ex,lv,Q,st,h=>by
  match st,h with
  | [],h=>exact aW h
  | x :: ys,h =>
   have h':(kS S lv s x&&kB S lv (.cons s' r) ys)=true:=h;rw [ak] at h';exact ahR (okS s Q x h'.1) (okB (.cons s' r) Q ys h'.2)
end
end L4
namespace L4
open PySem PySem.Spec PyProof.Rows L2
noncomputable def bQ (R:dX):dX:=fun d G'=>∃ G0,Le G0 G'/\R d G0
noncomputable def gW (EX:aV):aV:=fun C G'=>∃ G0,Le G0 G'/\EX C G0
noncomputable def spD (n m:Nat) (tb:aV->bH):iT:=fun ds G R EX=>ds.length=m/\tb (gW EX) ⟨fun _ G'=>bQ R .non G',bQ R,fun _ _=>False,fun _ _=>False⟩ (pO n ds) G
theorem bQ.here {R:dX} {d:D} {G:Gp} (h:R d G):bQ R d G:=⟨G,.refl G,h⟩
theorem gW.here {R:aV} {d:Addr} {G:Gp} (h:R d G):gW R d G:=⟨G,.refl G,h⟩
theorem a9Q {K:Fg} {EX:aV} {E:XK} (h:UpX K EX E):UpX K (gW EX) E:=fun C H' G' g ⟨G0,l,q⟩=>h C H' G0 (g.le l) q
variable {qt:Bool}{P:Program}{mg:Str->Option Value}{base:Heap}{fd:FuncData}{ps:List Str}
theorem aoV {w:World} {K:Fg} {x qual:Str} {st:Stmt} {f:Addr} {N:List Str} {k:Nat} {tb:aV->bH} (F:wK K x qual st f fd) (S:bM N ps (aU st))
  (hbody:∀ (cdv:Value) (A:Around) (outer:List Env) (s:Shared) (H:Hp) (E:XK) (EX:aV),cR qt k (A.deeper (envOfC qual (aU st) s.heap.objs.size f cdv))->UpX K EX E ->
   yP (cx1 qt P w K mg base N qual (aU st) f cdv A outer s H E) (cO st) (tb EX)):cI qt P w K mg base (jB P w) (k+1) f fd ps (cZ K (spD N.length ps.length tb)):=by
 refine (au6 F S hbody).imp fun vs H Q E ⟨ds,G,R,EX,r,g,⟨hl,q⟩,kk,hE⟩=>?_;exact ⟨ds,G,bQ R,gW EX,r,g,⟨hl,q⟩,fun v H' d G' r1 g1 ⟨G0,l,q⟩=>kk v H' d G0 r1 (g1.le l) q,a9Q hE⟩
noncomputable def GTs (P:Program) (w:World) (K:Fg) (mg:Str->Option Value) (base:Heap) (k:Nat) (x:Str):GT->Prop
 | .con d=>∃ u v,mg x=some u/\RelV v u/\∀ H,RD K H d v
 | .cls a=>mg x=some (.ref a)/\uq K a BMv "ValueError.__new__" = true/\(xg K a).isSome=true/\PySem.W.typeIn K (.ref a)=some (.type "type")/\PySem.W.subIn K (.ref a) (.type "BaseException")=some true
 | .fn sp n qt=>∃ f fd ps,cI qt P w K mg base (jB P w) k f fd ps (cZ K sp)/\mg x=some (.ref f)/\mz K (.ref f)=true/\Binds K fd ps []
 | .bf b=>mg x=none/\bootBuiltins x=some (ajQ b)
 | .bt n=>mg x=none/\bootBuiltins x=some (.type n)
 | .kl C sp dd=>∃ j f fd ps ds wJ,j+1=k/\Mk K C f/\cI false P w K mg base (jB P w) j f fd ps (cZ K sp)/\mg x=some (.ref C)/\Binds K fd ps ds/\Vals wJ ds/\∀ H,bV K H dd wJ
 | .me C m sp dd=>∃ f fd ps ds wJ,Cls K C/\Meth K C m f/\cI false P w K mg base (jB P w) k f fd ps (cZ K sp)/\Binds K fd ps ds/\Vals wJ ds/\∀ H,bV K H dd wJ
 | .fl C f=>Cls K C/\ah3 K C f
 | .clo c sp=>a8S false P w K mg base k c sp
 | .fnP sp n=>∃ f fd ps,a9B false P w K mg base (jB P w) k f fd ps (cZ K sp)/\mg x=some (.ref f)/\mz K (.ref f)=true/\Binds K fd ps []
noncomputable def aoW (sc:Scope) (x:Str):Bool:=match sc.names.lookup x with
 | some .local=>true
 | some .cell=>true
 | _=>false
noncomputable def aoX (sc:Scope) (x:Str):Bool:=match sc.names.lookup x with
 | some .local=>true
 | _=>false
noncomputable def aoY (sc:Scope) (x:Str):Bool:=match sc.names.lookup x with
 | some .globalImplicit=>true
 | _=>false
noncomputable def aoZ (sc:Scope) (x:Str):Bool:=match sc.names.lookup x with
 | some .cell=>true
 | _=>false
variable {sc:Scope}
theorem ae0 {x:Str} (h:aoZ sc x=true):sc.names.lookup x=some .cell:=by
 unfold aoZ at h;split at h
 ·rename_i e;exact e
 ·exact aW h
noncomputable def a1X (S:SI) (sc:Scope):Bool:=(dh S.N.length).all (fun i=>match S.N[i]? with
  | none=>false
  | some x=>x != ("__debug__" : Str)&&x != ("__classdict__" : Str)&&(S.fl[i]? != some true || aoW sc x)&&(S.lc[i]? != some true || aoX sc x)&&(S.ce[i]? != some true || aoZ sc x)) &&
 (dh S.gl.length).all (fun k=>match S.gl[k]? with
  | none=>false
  | some (y,_)=>(S.gv[k]? != some true || aoY sc y)&&y != ("__debug__" : Str)&&y != ("__name__" : Str))
theorem ae1 {x:Str} (h:aoW sc x=true):Loc sc x:=by
 unfold aoW at h;split at h
 ·rename_i e;exact .inl e
 ·rename_i e;exact .inr e
 ·exact aW h
theorem a78 {x:Str} (h:Loc sc x):Vis sc x:=h.elim .inl fun z => .inr (.inl z)
theorem ae2 {x:Str} (h:aoX sc x=true):sc.names.lookup x=some .local:=by
 unfold aoX at h;split at h
 ·rename_i e;exact e
 ·exact aW h
theorem ae3 {x:Str} (h:aoY sc x=true):sc.names.lookup x=some .globalImplicit:=by
 unfold aoY at h;split at h
 ·rename_i e;exact e
 ·exact aW h
variable {S:SI}
theorem nA (h:a1X S sc=true) {i:Nat} {x:Str} (e:S.N[i]?=some x) :
  (x == ("__debug__" : Str))=false/\(x == ("__classdict__" : Str))=false/\(S.fl[i]?=some true->Loc sc x)/\(S.lc[i]?=some true->sc.names.lookup x=some .local)/\(S.ce[i]?=some true->sc.names.lookup x=some .cell):=by
 unfold a1X at h;rw [ak] at h;have hi:i < S.N.length:=(cj.mp e).1;have q:=gj.mp h.1 i (ji.mpr hi);rw [e] at q;simp only [ak,bne_iff_ne,ne_eq,vh] at q;obtain ⟨⟨⟨⟨q1,q2⟩,q3⟩,q4⟩,q5⟩:=q;refine ⟨beq_eq_false_iff_ne.mpr q1,beq_eq_false_iff_ne.mpr q2,fun z=>?_,fun z=>?_,fun z=>?_⟩
 ·rcases q3 with q | q
  ·exact absurd z q
  ·exact ae1 q
 ·rcases q4 with q | q
  ·exact absurd z q
  ·exact ae2 q
 ·rcases q5 with q | q
  ·exact absurd z q
  ·exact ae0 q
theorem ae4 (h:a1X S sc=true) {k:Nat} {x:Str} {g:GT} (e:S.gl[k]?=some (x,g)):(S.gv[k]?=some true->sc.names.lookup x=some .globalImplicit)/\(x == ("__debug__" : Str))=false/\x ≠ "__name__" := by
 unfold a1X at h;rw [ak] at h;have q:=gj.mp h.2 k (ji.mpr (cj.mp e).1);rw [e] at q;simp only [ak,bne_iff_ne,ne_eq,vh] at q;exact ⟨fun z=>ae3 (q.1.1.resolve_left fun n=>n z),beq_eq_false_iff_ne.mpr q.1.2,q.2⟩
theorem ak2 {w:World} {K:Fg} {x qual:Str} {st:Stmt} {f:Addr} {k:Nat} {c:CB} (F:wK K x qual st f fd) (hS:bM S.N ps (aU st))
  (hc:S.calm=!qt) (hv:a1X S (aU st)=true) (hk:kB S 0 c (cO st)=true) (hg:∀ (j:Nat) (y:Str) (g:GT),S.gl[j]?=some (y,g)->GTs P w K mg base k y g) (hn:S.need=false:=by rfl) :
  cI qt P w K mg base (jB P w) (k+1) f fd ps (cZ K (spD S.N.length ps.length fun EX=>mB S.gl K (fun _=>EX) c)):=by
 refine aoV F hS fun cdv A outer s H E EX hr hE=>?_;refine okB c (X:=cx1 qt P w K mg base S.N qual (aU st) f cdv A outer s H E) (S:=S) (ex:=fun _=>EX) (lv:=0) ?_ (cO st) hk;refine ⟨⟨rfl,hS.nd,fun i y e1 e2=>?_,fun i y e1 e2 => .inl ((nA hv e1).2.2.2.2 e2),fun j y g e=>?_,hr.units,fun z=>hc.symm.trans z,azQ hE,fun z=>by rw [hn] at z;cases z⟩,fun i y e1 e2=>?_,fun i y e1 e2=>?_,fun _ _ _ _=>rfl,fun j y a e _=>?_,fun _=>own1,fun _ _=>azR hE,rfl,rfl⟩
 ·obtain ⟨a1,a2,a3,a4⟩:=nA hv e1;exact ⟨a78 (a3 e2),a1,a2⟩
 ·obtain ⟨a1,a2,a3⟩:=ae4 hv e;have z:=hg j y g e;refine ⟨a1,a2,a3,?_⟩;cases g with
  | con d=>exact z
  | cls a=>exact ⟨z.1,z.2.1⟩
  | fn sp n q2 =>
   intro hz;obtain ⟨f',fd',ps',F',m',k',b'⟩:=z;refine ⟨k,f',fd',ps',F',⟨fun e=>hr.hd ?_,hr.dp,hr.un⟩,m',k',b'⟩;have hs:S.calm=true:=hz.resolve_left (by rw [e];decide);rw [hc] at hs;simpa using hs
  | bf b=>exact z
  | bt n=>exact z
  | kl C sp dd =>
   intro hs;obtain ⟨j',f',fd',ps',ds,wJ,rfl,q1,q2,q3,q4,q5,q6⟩:=z;rw [hc] at hs;exact ⟨j',f',fd',ps',ds,wJ,q1,q2,⟨fun _=>hr.hd (by simpa using hs),hr.dp,hr.un⟩,q3,q4,q5,q6⟩
  | me C m sp dd =>
   intro hs;obtain ⟨f',fd',ps',ds,wJ,q1,q2,q3,q4,q5,q6⟩:=z;rw [hc] at hs;exact ⟨k,f',fd',ps',ds,wJ,q1,q2,q3,⟨fun _=>hr.hd (by simpa using hs),hr.dp,hr.un⟩,q4,q5,q6⟩
  | fl C f=>exact z
  | clo c sp =>
   intro hs;rw [hc] at hs;exact ⟨k,z,⟨fun _=>hr.hd (by simpa using hs),hr.dp,hr.un⟩⟩
  | fnP sp n =>
   intro hs;obtain ⟨f',fd',ps',F',m',k',b'⟩:=z;rw [hc] at hs;exact ⟨k,f',fd',ps',F',⟨fun _=>hr.hd (by simpa using hs),hr.dp,hr.un⟩,m',k',b'⟩
 ·exact (nA hv e1).2.2.1 e2
 ·exact (nA hv e1).2.2.2.1 e2
 ·have z:=hg j y _ e;exact z.2
end L4
namespace L4
open PySem PySem.Spec PyProof.Rows L2 PySem.W
noncomputable def aw0 (sc:Scope) (x:Str):Bool:=match sc.names.lookup x with
 | some .free=>true
 | _=>false
variable {sc:Scope}
theorem ap0 {x:Str} (h:aw0 sc x=true):sc.names.lookup x=some .free:=by
 unfold aw0 at h;split at h
 ·assumption
 ·exact aW h
noncomputable def ak3 (S:SI) (sc:Scope):Bool:=(dh S.N.length).all (fun i=>match S.N[i]? with
  | none=>false
  | some x=>x != ("__debug__" : Str)&&x != ("__classdict__" : Str)&&(S.fl[i]? != some true || aoW sc x)&&(S.lc[i]? != some true || aoX sc x)&&(S.ce[i]? != some true || (aoZ sc x || aw0 sc x))) &&
 (dh S.gl.length).all (fun k=>match S.gl[k]? with
  | none=>false
  | some (y,_)=>(S.gv[k]? != some true || aoY sc y)&&y != ("__debug__" : Str)&&y != ("__name__" : Str))
variable {S:SI}
theorem ak4 (h:ak3 S sc=true) {i:Nat} {x:Str} (e:S.N[i]?=some x) :
  (x == ("__debug__" : Str))=false/\(x == ("__classdict__" : Str))=false/\(S.fl[i]?=some true->Loc sc x)/\(S.lc[i]?=some true->sc.names.lookup x=some .local)/\(S.ce[i]?=some true->sc.names.lookup x=some .cell∨sc.names.lookup x=some .free):=by
 unfold ak3 at h;rw [ak] at h;have hi:i < S.N.length:=(cj.mp e).1;have q:=gj.mp h.1 i (ji.mpr hi);rw [e] at q;simp only [ak,bne_iff_ne,ne_eq,vh] at q;obtain ⟨⟨⟨⟨q1,q2⟩,q3⟩,q4⟩,q5⟩:=q;exact ⟨beq_eq_false_iff_ne.mpr q1,beq_eq_false_iff_ne.mpr q2,fun z=>ae1 (q3.resolve_left fun n=>n z),fun z=>ae2 (q4.resolve_left fun n=>n z),fun z=>(q5.resolve_left fun n=>n z).elim (fun y => .inl (ae0 y)) fun y => .inr (ap0 y)⟩
variable {y:Str}
theorem aw1 (h:ak3 S sc=true) {k:Nat} {g:GT} (e:S.gl[k]?=some (y,g)):(S.gv[k]?=some true->sc.names.lookup y=some .globalImplicit)/\(y == ("__debug__" : Str))=false/\y ≠ "__name__" := by
 unfold ak3 at h;rw [ak] at h;have hi:k < S.gl.length:=(cj.mp e).1;have q:=gj.mp h.2 k (ji.mpr hi);rw [e] at q;simp only [ak,bne_iff_ne,ne_eq,vh] at q;exact ⟨fun z=>ae3 (q.1.1.resolve_left fun n=>n z),beq_eq_false_iff_ne.mpr q.1.2,q.2⟩
section
variable {P:Program} {w:World} {K:Fg} {mg:Str->Option Value} {base:Heap} {k:Nat}
theorem ak5 {X:Cx} {qt:Bool} (hX:X.prog=P/\X.w=w/\X.K=K/\X.mg=mg/\X.base=base) (hr:cR qt k X.A) (hc:S.calm=!qt) {g:GT} (z:GTs P w K mg base k y g):avS X S.calm y g:=by
 obtain ⟨rfl,rfl,rfl,rfl,rfl⟩:=hX;cases g with
 | con d=>exact z
 | cls a=>exact ⟨z.1,z.2.1⟩
 | fn sp n q2 =>
  intro hz;obtain ⟨f',fd',ps',F',m',k',b'⟩:=z;refine ⟨k,f',fd',ps',F',⟨fun e=>hr.hd ?_,hr.dp,hr.un⟩,m',k',b'⟩;have hs:S.calm=true:=hz.resolve_left (by rw [e];decide);rw [hc] at hs;simpa using hs
 | bf b=>exact z
 | bt n=>exact z
 | kl C sp dd =>
  intro hs;obtain ⟨j',f',fd',ps',ds,wJ,rfl,q1,q2,q3,q4,q5,q6⟩:=z;rw [hc] at hs;exact ⟨j',f',fd',ps',ds,wJ,q1,q2,⟨fun _=>hr.hd (by simpa using hs),hr.dp,hr.un⟩,q3,q4,q5,q6⟩
 | me C m sp dd =>
  intro hs;obtain ⟨f',fd',ps',ds,wJ,q1,q2,q3,q4,q5,q6⟩:=z;rw [hc] at hs;exact ⟨k,f',fd',ps',ds,wJ,q1,q2,q3,⟨fun _=>hr.hd (by simpa using hs),hr.dp,hr.un⟩,q4,q5,q6⟩
 | fl C f=>exact z
 | clo c sp =>
  intro hs;rw [hc] at hs;exact ⟨k,z,⟨fun _=>hr.hd (by simpa using hs),hr.dp,hr.un⟩⟩
 | fnP sp n =>
  intro hs;obtain ⟨f',fd',ps',F',m',k',b'⟩:=z;rw [hc] at hs;exact ⟨k,f',fd',ps',F',⟨fun _=>hr.hd (by simpa using hs),hr.dp,hr.un⟩,m',k',b'⟩
end
theorem a8S.mono {qt:Bool} {P:Program} {w:World} {K:Fg} {mg:Str->Option Value} {base:Heap} {j k:Nat} {c:ahM} {sp:iT} (F:a8S qt P w K mg base j c sp) (h:j<=k):a8S qt P w K mg base k c sp :=
 fun A outer s H us vs ds d G R E f hr=>F A outer s H us vs ds d G R E f (hr.mono h)
noncomputable def inBody (s:Stmt) (i:Nat):Stmt:=(cO s).getD i (.Pass ⟨0,0,0,0⟩)
theorem ag4 {x:Str} (h:sc.names.all (fun p=>p.2 != .free || p.1 == x)=true):∀ y,sc.names.lookup y=some .free->y=x:=by
 have key:∀ (l:List (Str×NameKind)),l.all (fun p=>p.2 != .free || p.1 == x)=true->∀ y,l.lookup y=some .free->y=x:=by
  intro l
  induction l with
  | nil=>intro _ y z;cases z
  | cons p r ih =>
   intro ha y z;obtain ⟨n,kd⟩:=p;rw [qz,ak] at ha;rw [jg] at z;split at z
   ·rename_i e;cases z;rcases vh _ _ |>.mp ha.1 with q | q
    ·simp at q
    ·rw [beq_iff_eq.mp e];exact beq_iff_eq.mp q
   ·exact ih ha.2 y z
 exact key _ h
theorem ak6 {K:Fg} {x qual:Str} {st:Stmt} {f c t:Addr} {fd:FuncData} (F:wK K x qual st f fd) (h:tabIn K y=some (c,t)) (hn:nsIn K mainGlobals y=some (some (.ref f))):fd.code = .ref c:=by
 obtain ⟨oc,od,dV,kV,doc,pm,an,cdv,ct,osl,rfl,lk,_⟩:=F.ex;unfold tabIn at h;rw [hn] at h;dsimp only at h;rw [lk] at h;dsimp only at h;split at h
 ·rename_i c' e;split at h
  ·split at h
   ·cases h;first | exact e | assumption | rfl
   ·cases h
  ·cases h
 ·cases h
noncomputable def rE (K:Fg) (x:Str):Addr×Addr:=(tabIn K x).getD (0,0)
theorem ae5 {K:Fg} {x:Str} (h:(tabIn K x).isSome=true):tabIn K x=some ((rE K x).1,(rE K x).2):=by
 unfold rE;cases e:tabIn K x with
 | none=>rw [e] at h;cases h
 | some p=>rfl
end L4
namespace L2
open PySem PySem.Spec PyProof.Rows
variable {qt:Bool}
section
open PySem.W
def ak7 (T:Addr) (H:Hp):Prop:=H T=some (.vH #[])/\∀ b,b≠T->H b=none∨∃ o xs,H b=some (.oJ o (.lst xs))
theorem ag5 {P:Program} {w:World} {K:bw} {mg mb:Str->Option Value} {CX:CXT} {k:Nat} {fa a T cC:Addr} {fd:FuncData} {x:Str} {sp:Sp} {s₁:Shared} {vs:List Value} {ns:List Int}
  (KX:K.In s₁.heap) (hns:s₁.heap.Ns mainGlobals mg) (hb:s₁.heap.Ns builtinsNs mb) (hbb:∀ x:Str,x ≠ "__name__" -> mb x=bootBuiltins x) (hlim:s₁.heap.NoLimit) (hg:s₁.gens=#[])
  (ha:s₁.heap.get? a=some { cls := .type "list",data := .seq vs.toArray }) (hi:IntsAre vs ns) (hl:ns.length<=sizeLine) (hr:cR qt k callerA)
  (hC:CodeHd s₁.heap cC T) (hT:s₁.heap.get? T=some (tabObj #[])) (hKT:K.lookup T=none) (hbm:∃ bm o,mg "__builtins__" = some (.ref bm)/\bm≠builtinsNs/\bm≠mainGlobals/\s₁.heap.get? bm=some o/\o.cls = .type "module" /\ o.dict=some builtinsNs/\o.data = .plain)
  (F:∀ base:Heap,K.In base->base.Ns mainGlobals mg->base.BuiltinsAt mg T->CodeHd base cC T->cI qt P w K mg base CX k fa fd [x] sp) (hbind:∀ (s:Shared) (u:Value),BindsTo s fd ⟨[u],[]⟩ [(x,u)])
  (hsp:∀ H:Hp,ak7 T H->rF K H a (ns.map V.int)->sp [.ref a] H (fun v _=>v = .bl true) fun _ _ _=>False)
  (hCX:∀ H e s',CX [] H s₁ (fun _ _ _=>False) e s'->False) :
  codeAny (model P w) callerA (.call (.ref fa) ⟨[.ref a],[]⟩) (fun r s'=>r = .ok (.ret (.bool true))/\OldK s₁.heap s'.heap/\s'.os=s₁.os/\AllBare s'.gens) s₁:=by
 have rv:=a4J hi;have lenV:=hi.length;have aT:a≠T:=fun z=>by rw [z,hT] at ha;cases ha
 have core:∀ H:Hp,ak7 T H->rF K H a (ns.map V.int)->wI P w H s₁.heap->(∀ b,H b≠none->b=a∨b=T)->(H a≠none->K.lookup a=none) ->
   codeAny (model P w) callerA (.call (.ref fa) ⟨[.ref a],[]⟩) (fun r s'=>r = .ok (.ret (.bool true))/\OldK s₁.heap s'.heap/\s'.os=s₁.os/\AllBare s'.gens) s₁:=by
  intro H hO hS hok hA hK;have a0G:∀ {b:Addr} {o:Obj},s₁.heap.get? b=some o->H b=none->(a0M s₁.heap H).get? b=some o:=fun e n=>agP e n
  have no:∀ {b:Addr} {o:Obj},s₁.heap.get? b=some o->(∀ its n,o.data ≠ .seq its n)->o.cls ≠ .none->H b=none:=fun {b o} e d1 d2=>by
   cases q:H b with
   | none=>rfl
   | some u =>
    rcases hA b (by rw [q];simp) with e' | e'
    ·subst e';rw [ha] at e;cases e;exact absurd rfl (d1 _ _)
    ·subst e';rw [hT] at e;cases e;exact absurd rfl d2
  have noD:∀ {b:Addr} {o:Obj} {es:Array DictEntry} {ep:Nat},s₁.heap.get? b=some o->o.data = .dict es ep->H b=none:=fun {b o es ep} e d=>by
   cases q:H b with
   | none=>rfl
   | some u =>
    rcases hA b (by rw [q];simp) with e' | e'
    ·subst e';rw [ha] at e;cases e;cases d
    ·subst e';rw [hT] at e;cases e;cases d
  have nsK:∀ {b:Addr} {m:Str->Option Value},s₁.heap.Ns b m->(a0M s₁.heap H).Ns b m:=fun {b m} ⟨o,es,ep,e,d,r⟩=>⟨o,es,ep,a0G e (noD e d),d,r⟩
  have hKb:K.In (a0M s₁.heap H):=fun b o e=>a0G (KX b o e) (by
   cases q:H b with
   | none=>rfl
   | some u =>
    rcases hA b (by rw [q];simp) with e' | e'
    ·subst e';rw [hK (by rw [q];simp)] at e;cases e
    ·subst e';rw [hKT] at e;cases e)
  have hM:Mod K mg (a0M s₁.heap H):=⟨hKb,nsK hns,⟨mb,nsK hb,hbb⟩,let ⟨mc,h1,h2⟩:=hlim;⟨mc,nsK h1,h2⟩⟩
  have hBA:(a0M s₁.heap H).BuiltinsAt mg T:=by
   obtain ⟨bm,o,b1,b2,b3,b4,b5,b6,b7⟩:=hbm;refine ⟨bm,o,b1,b2,b3,fun z=>?_,a0G b4 (no b4 (fun its n z=>by rw [b7] at z;cases z) (by rw [b5];intro z;cases z)),b5,b6,b7⟩;rw [z,hT] at b4;cases b4;cases b5
  have hCb:CodeHd (a0M s₁.heap H) cC T:=by
   obtain ⟨o,vs',file,tf,flags,tg,inF,text,tt,e,c1,c2,r⟩:=hC;exact ⟨o,vs',file,tf,flags,tg,inF,text,tt,a0G e (no e (fun its n z=>by rw [c2] at z;cases z) (by rw [c1];intro z;cases z)),c1,c2,r⟩
  have e0:vK P w K mg (a0M s₁.heap H) callerA [] s₁ H:=⟨rfl,hM,fun b o e=>am1 e,yt (af2 _ _),trivial,fun b hb=>absurd (show b∈([]:List Addr) from hb) (by simp),hok,.of_eq hg,.inl rfl⟩;refine codeAny_mono ((F _ hKb (nsK hns) hBA hCb).run callerA [] s₁ H ⟨[.ref a],[]⟩ [.ref a] [.ref a] _ _ hr e0 (hbind s₁ (.ref a)) (.cons rfl .nil) (hsp H hO hS)) fun r s' h=>?_;cases r with
  | error e=>exact (hCX H e s' h).elim
  | ok fl =>
   cases fl with
   | next=>exact False.elim h
   | brk=>exact False.elim h
   | cont=>exact False.elim h
   | ret u =>
    obtain ⟨v,H',os,bare,un,hok',r',q⟩:=h;have q':v = .bl true:=q;subst q';obtain rfl:u=Value.bool true:=r'
    have old:∀ b o,b≠T->s₁.heap.get? b=some o->s'.heap.get? b=some o:=fun b o bT e=>by
     cases q:H b with
     | none=>exact un.keep b o e q (by intro z;exact absurd (show b∈([]:List Addr) from z) (by simp)) (by simp)
     | some u =>
      rcases hO.2 b bT with z | ⟨ob,xs,z⟩
      ·rw [q] at z;cases z
      ·have z2:=un.eZ b ob _ z;obtain ⟨e1,_⟩:=hok b _ z;obtain ⟨e2,_⟩:=hok' b _ z2;rw [e] at e1;cases e1;exact e2
    obtain ⟨more,eM⟩:=un.rD T _ hO.1;have hT':s'.heap.get? T=some (tabObj (#[]++more)):=hok' T _ eM;refine ⟨rfl,⟨fun b o e=>?_,fun b o e=>?_⟩,os,bare⟩
    ·by_cases bT:b=T
     ·subst bT;rw [hT] at e;cases e;exact .inr (.inl ⟨(hC.tab hT).isCodeTable,rfl,#[],#[]++more,rfl,by rw [Array.empty_append];exact hT'⟩)
     ·exact .inl (old b o bT e)
    ·by_cases bT:b=T
     ·subst bT;exact ⟨_,hT'⟩
     ·exact ⟨o,old b o bT e⟩
 cases hk:K.lookup a with
 | some o =>
  have e:=KX a o hk;rw [ha] at e;cases e;refine core (fun b=>if b=T then some (.vH #[]) else none) ⟨if_pos rfl,fun b n => .inl (if_neg n)⟩ (.inr ⟨_,vs.toArray,_,hk,rfl,rfl,rfl,by rw [aq,lenV];exact hl,by simpa using rv⟩) (fun b u z=>?_) (fun b z=>?_) fun z=>absurd (if_neg aT) z
  ·by_cases hb:b=T
   ·have z':=(if_pos hb).symm.trans z;cases z';subst hb;exact hT
   ·have z':=(if_neg hb).symm.trans z;cases z'
  ·by_cases hb:b=T
   ·exact .inr hb
   ·exact absurd (if_neg hb) z
 | none =>
  refine core (fun b=>if b=T then some (.vH #[]) else if b=a then some (.oJ { cls := .type "list",data := .seq vs.toArray } (.lst (ns.map V.int))) else none) ⟨if_pos rfl,fun b n=>?_⟩ (.inl (.inr ⟨{ cls := .type "list",data := .seq vs.toArray },(if_neg aT).trans (if_pos rfl)⟩)) (fun b u z=>?_) (fun b z=>?_) fun _=>hk
  ·by_cases hb:b=a
   ·exact .inr ⟨_,_,(if_neg n).trans (if_pos hb)⟩
   ·exact .inl ((if_neg n).trans (if_neg hb))
  ·by_cases hb:b=T
   ·have z':=(if_pos hb).symm.trans z;cases z';subst hb;exact hT
   ·have z:=(if_neg hb).symm.trans z;by_cases hb2:b=a
    ·have z':=(if_pos hb2).symm.trans z;cases z';subst hb2;exact ⟨ha,by rw [bx];exact hl,vs,_,rv,ha⟩
    ·have z':=(if_neg hb2).symm.trans z;cases z'
  ·by_cases hb:b=T
   ·exact .inr hb
   ·by_cases hb2:b=a
    ·exact .inl hb2
    ·exact absurd ((if_neg hb).trans (if_neg hb2)) z
theorem ak8 {l:PySem.W.OpenLaw} {n k:Nat} {q:Program} {loose:List Str} {XP:(Str->Option Value)->Heap->Prop} {YP:World->Heap->Prop} {d dm:DefRec} {K:Params->bw} {CX:World->CXT} {sp:World->Sp} {x xm:Str} {T cC:World->Addr}
  (hn:l.most=some n) (hn2:n<=sizeLine) (hdf:d.params.defaults=[]) (hr:cR qt k callerA)
  (hY:∀ (w:World) (h:Heap),YP w h->(K w.params).In h) (hdm:(recsOf q).find? (fun e=>e.name == xm)=some dm) (ht:∀ w,tabIn (K w.params) xm=some (cC w,T w)) (hKT:∀ w,(K w.params).lookup (T w)=none)
  (F:∀ (w:World) (mg:Str->Option Value) (fa:Addr) (h:Heap),(K w.params).In h->h.Ns mainGlobals mg->mg d.name=some (.ref fa) ->
   ∃ fd:FuncData,(∀ (s:Shared) (u:Value),BindsTo s fd ⟨[u],[]⟩ [(x,u)]) /\
    ∀ base:Heap,(K w.params).In base->base.Ns mainGlobals mg->base.BuiltinsAt mg (T w)->CodeHd base (cC w) (T w)->cI qt l.prog w (K w.params) mg base (CX w) k fa fd [x] (sp w))
  (hsp:∀ (w:World) (H:Hp) (a:Addr) (ns:List Int),ns.length<=n->ak7 (T w) H->rF (K w.params) H a (ns.map V.int)->sp w [.ref a] H (fun v _=>v = .bl true) fun _ _ _=>False)
  (hCX:∀ (w:World) (H:Hp) (s:Shared) (e:Value) (s':Shared),CX w [] H s (fun _ _ _=>False) e s'->False) :
  PySem.W.WalkO q loose XP YP l.row.toRowW d [] (fun f vs=>PySem.call f vs):=by
 refine Att.a8L hn hdf fun w s₀ s₁ mg mb fa o pm cd doc a vs ns G Y ho hd hcd hmg hobj hints hlen hg=>?_;have KX:=hY w _ Y;obtain ⟨fd,hb,hF⟩:=F w mg fa _ KX G.T.g hmg;obtain ⟨t1,t2⟩:=tab_of G.T KX hdm (ht w);obtain ⟨bm,ob,b1,b2,b3,b4,b5,b6⟩:=G.T.bmain
 have bG:bm≠mainGlobals:=fun z=>by
  obtain ⟨o,es,ep,e,hd,_⟩:=G.T.g;rw [z,e] at b3;cases b3;rw [hd] at b6;cases b6
 exact ag5 KX G.T.g G.T.b G.T.builtins G.T.nolimit hg hobj hints (ju hlen hn2) hr t1 t2 (hKT w) ⟨bm,ob,b1,b2,bG,b3,b4,b5,b6⟩ hF hb (fun H hO hS=>hsp w H a ns hlen hO hS) fun H e s'=>hCX w H s₁ e s'
end
end L2
namespace L4
open PySem PySem.Spec PyProof.Rows L2 PySem.W
section
variable {P:Program} {w:World} {K:Fg} {mg:Str->Option Value} {base:Heap} {k:Nat}
theorem ak9 {c:oV} {ps:List Str} {S:SI} {ce:CE} (hS:ScX S.N ps c.x c.scope) (a0V:∀ y∈c.scope.names,y.1=c.x->y.2 ≠ .cell)
  (hb:∀ (cl:List (Str×Addr)) (pm cdv ctv:Value) (us:List Value),us.length=ps.length->bindArgs (kla_fn "<lambda>" c.qual c.params c.body c.scope cl pm cdv ctv) ⟨us,[]⟩=pure (ps.zip us))
  (hc:S.calm=true) (hv:ak3 S c.scope=true) (hk:kE S ce c.body=true) (hg:∀ (j:Nat) (y:Str) (g:GT),S.gl[j]?=some (y,g)->GTs P w K mg base k y g) (hn:S.need=false:=by rfl) :
  sO false P w K mg base (k+1) c (spL S.N.length (ps.length+1) (mE S.gl K (fun _=>gW fun _ _=>False) ce)):=by
 refine av5 hS a0V hb fun f c' cc A outer s H hr=>?_;refine fG (X:=cxX false (jB P w) P w K mg base S.N c.qual c.scope f (.ref c') c.x cc A outer s H (fun _ _ _=>False)) (S:=S) (ex:=fun _=>gW fun _ _=>False) ?_ ce c.body hk;refine ⟨rfl,hS.nd,fun i y e1 e2=>?_,fun i y e1 e2=>(ak4 hv e1).2.2.2.2 e2,fun j y g e=>?_,hr.units,fun _=>rfl,⟨fun pins σ H' s' ρ e s'' I sr z=>?_⟩,fun z=>by rw [hn] at z;cases z⟩
 ·obtain ⟨a1,a2,a3,_⟩:=ak4 hv e1;exact ⟨a78 (a3 e2),a1,a2⟩
 ·obtain ⟨a1,a2,a3⟩:=aw1 hv e;exact ⟨a1,a2,a3,ak5 (qt:=false) ⟨rfl,rfl,rfl,rfl,rfl⟩ hr hc (hg j y g e)⟩
 ·obtain ⟨_,_,_,_,_,_,_,_,_,_,_,_,z⟩:=z;obtain ⟨_,_,_,_,_,_,z⟩:=z;exact z.elim
theorem sO.mono {qt:Bool} {j k:Nat} {c:oV} {sp:iT} (F:sO qt P w K mg base j c sp) (h:j<=k):sO qt P w K mg base k c sp :=
 fun A outer s H us vs ds d G R E f cc c' pm ctv u vv hr=>F A outer s H us vs ds d G R E f cc c' pm ctv u vv (hr.mono h)
end
end L4
namespace L2
open PySem PySem.Spec PyProof.Rows
section
open PySem.W
noncomputable abbrev tbs (TL:List (Addr×Addr)):List Addr:=TL.map (·.2)
def aw2 (TL:List (Addr×Addr)) (H:Hp):Prop:=(∀ t∈tbs TL,H t=some (.vH #[]))/\∀ b,b ∉ tbs TL->H b=none∨∃ o xs,H b=some (.oJ o (.lst xs))
noncomputable def H0 (K:bw) (TL:List (Addr×Addr)) (a:Addr) (o:Obj) (ns:List Int):Hp:=fun b=>if b∈tbs TL then some (.vH #[]) else if b=a/\K.lookup a=none then some (.oJ o (.lst (ns.map V.int))) else none
section
variable {K:bw} {TL:List (Addr×Addr)} {a:Addr} {o:Obj} {ns:List Int} {h:Heap} {vs:List Value}
theorem H0.tab {b:Addr} (hb:b∈tbs TL):H0 K TL a o ns b=some (.vH #[]):=if_pos hb
theorem H0.cases {b:Addr} {u:HO} (e:H0 K TL a o ns b=some u):(b∈tbs TL/\u = .vH #[])∨(b ∉ tbs TL/\b=a/\K.lookup a=none/\u = .oJ o (.lst (ns.map V.int))):=by
 unfold H0 at e;by_cases c:b∈tbs TL
 ·rw [if_pos c] at e;cases e;exact .inl ⟨c,rfl⟩
 ·rw [if_neg c] at e;by_cases d:b=a/\K.lookup a=none
  ·rw [if_pos d] at e;cases e;exact .inr ⟨c,d.1,d.2,rfl⟩
  ·rw [if_neg d] at e;cases e
theorem H0.only:aw2 TL (H0 K TL a o ns):=⟨fun t ht=>H0.tab ht,fun b hb=>by
 cases e:H0 K TL a o ns b with
 | none=>exact .inl rfl
 | some u =>
  rcases H0.cases e with z | z
  ·exact absurd z.1 hb
  ·rw [z.2.2.2];exact .inr ⟨_,_,rfl⟩⟩
theorem H0.out {b:Addr} {q:Obj} (ho:h.get? a=some o) (hd:∃ its n,o.data = .seq its n) (hT:∀ t∈tbs TL,h.get? t=some (tabObj #[])) (e:h.get? b=some q) (n1:q≠tabObj #[]) (n2:q≠o):H0 K TL a o ns b=none:=by
 cases z:H0 K TL a o ns b with
 | none=>rfl
 | some u =>
  exfalso;rcases H0.cases z with y | y
  ·rw [hT b y.1] at e;exact n1 (ig.inj e).symm
  ·rw [y.2.1,ho] at e;exact n2 (ig.inj e).symm
end
end
end L2
namespace L4
open PySem PySem.Spec PyProof.Rows L2 PySem.W
noncomputable def aw3 (qual x:Str) (s:Stmt):oV:=match s with
 | .For _ (.Call _ _ [⟨_,.Lambda a b sc p,_⟩] _) _ _ _=>⟨qual ++ ".<locals>." ++ "<lambda>",a,b,sc,x,p⟩
 | s=>⟨"",jR s,.Name "" ⟨0,0,0,0⟩,aU s, "",⟨0,0,0,0⟩⟩
noncomputable def fBody (s:Stmt):List Stmt:=match s with
 | .For _ _ b _ _=>b
 | _=>[]
noncomputable def aFH (s:Stmt):Expr:=match s with
 | .For t _ _ _ _=>t
 | _ => .Name "" ⟨0,0,0,0⟩
noncomputable def fArg (s:Stmt):Expr:=match s with
 | .For _ (.Call _ [.Call _ [e] _ _] _ _) _ _ _=>e
 | _ => .Name "" ⟨0,0,0,0⟩
noncomputable def ag6 (s:Stmt):Pos×Pos×Pos×Pos×Pos×Pos:=match s with
 | .For _ (.Call (.Name _ p1) [.Call (.Name _ p2) _ _ p3] [⟨_,_,kp⟩] p4) _ _ p5=>(p1,p2,p3,p4,p5,kp)
 | _=>(⟨0,0,0,0⟩,⟨0,0,0,0⟩,⟨0,0,0,0⟩,⟨0,0,0,0⟩,⟨0,0,0,0⟩,⟨0,0,0,0⟩)
theorem aB9 {X:Cx} {a b:List Stmt} {t u:bH} (h1:yP X a t) (h2:yP X b u):yP X (a++b) (aM t u):=PSs.imp (anF h1 h2) fun F σ H h=>by
 obtain ⟨ρ,G,E,s,g,q,d⟩:=h;exact ⟨ρ,G,_,s,g,q,⟨fun ρ' G' σ' H' s' g' q'=>⟨ρ',G',E,s',g',q',d⟩,d.rt,d.bk,d.ct⟩⟩
section
variable {P:Program} {w:World} {K:Fg} {mg:Str->Option Value} {base:Heap} {k:Nat}
noncomputable def aw4 (gl:List (Str×GT)) (K:Fg) (ex:aN->aV) (T:Addr) (c:oV) (ix:Nat) (sp:iT) (c1:CB) (ce:CE) (tg:CTg) (c2 c3:CB):bH:=aM (mB gl K ex c1) (aM (jC (a6O (a75 (mE gl K ex ce) T c ix sp)) (mG tg) (mB gl K ex c2)) (mB gl K ex c3))
theorem akA {x qual:Str} {st:Stmt} {f cC T:Addr} {fd:FuncData} {ps:List Str} {ix:Nat} {S:SI} {c:oV} {sp:iT} {c1 c2 c3:CB} {ce:CE} {tg:CTg} {pre body post:List Stmt} {tgt e:Expr} {p1 p2 p3 p4 p5 kp:Pos} (F:wK K x qual st f fd) (hS:bM S.N ps (aU st))
  (hb:cO st=pre ++ .For tgt (.Call (.Name "sorted" p1) [.Call (.Name "range" p2) [e] [] p3] [⟨some "key",.Lambda c.params c.body c.scope c.pos,kp⟩] p4) body [] p5 :: post) (hd:∀ env,defaultsOf c.params env=([],[])) (hq:qual ++ ".<locals>." ++ "<lambda>" = c.qual) (hfc:fd.code = .ref cC) (hC:CodeHd base cC T) (hbt:base.BuiltinsAt mg T)
  (hcf:c.scope.names.filter (fun p=>p.2 == .free)=[(c.x,.free)]) (hix:S.N[ix]?=some c.x) (hxc:(aU st).names.lookup c.x=some .cell) (hgs:(aU st).names.lookup ("sorted" : Str)=some .globalImplicit) (hms:mg "sorted" = none) (hgr:(aU st).names.lookup ("range" : Str)=some .globalImplicit) (hmr:mg "range" = none)
  (LO:sO false P w K mg base k c sp) (hc:S.calm=true) (hv:a1X S (aU st)=true) (h1:kB S 0 c1 pre=true) (hke:kE S ce e=true) (hse:isStar e=false) (htg:aoQ S tg=true) (hkt:kTg S tg tgt=true) (h2:kB S 0 c2 body=true) (h3:kB S 0 c3 post=true)
  (hg:∀ (j:Nat) (y:Str) (g:GT),S.gl[j]?=some (y,g)->GTs P w K mg base (k+2) y g) (hn:S.need=false:=by rfl):cI false P w K mg base (jB P w) (k+3) f fd ps (cZ K (spD S.N.length ps.length fun EX=>aw4 S.gl K (fun _=>EX) T c ix sp c1 ce tg c2 c3)):=by
 obtain ⟨oc,od,dV,kV,doc,pm,an,cdv,ct,osl,rfl,lk,aFI⟩:=F.ex;rw [hb] at lk ⊢;have ecd:cdv = .ref cC:=hfc;subst ecd;refine cI.imp (?_:cI false P w K mg base (jB P w) (k+3) f _ ps (cZ K (azO S.N.length ps.length fun EX=>aw4 S.gl K (fun _=>EX) T c ix sp c1 ce tg c2 c3))) fun vs H Q E ⟨ds,G,R,EX,r,g,⟨hl,q⟩,kk,hE⟩=>⟨ds,G,bQ R,gW EX,r,g,⟨hl,q⟩,fun v H' d G' r1 g1 ⟨G0,l,q⟩=>kk v H' d G0 r1 (g1.le l) q,a9Q hE⟩;refine ah5 (k:=k+2) lk aFI hS (fun vs H Q E h=>?_) fun A outer s H vs Q E hr hsp=>?_
 ·obtain ⟨ds,G,R,EX,r,g,⟨hl,q⟩,_⟩:=h;rw [← r.length,hl]
 ·obtain ⟨ds,G,R,EX,r,g,⟨hl,q⟩,kk,hE⟩:=hsp
  have SS:a1V (j9 false (jB P w) P w K mg base S.N qual (aU st) f (.ref cC) A outer s H E) S (fun _=>EX) 0:=by
   refine ⟨⟨rfl,hS.nd,fun i y e1 e2=>?_,fun i y e1 e2 => .inl ((nA hv e1).2.2.2.2 e2),fun j y g e=>?_,hr.units,fun z=>rfl,azQ hE,fun z=>by rw [hn] at z;cases z⟩,fun i y e1 e2=>(nA hv e1).2.2.1 e2,fun i y e1 e2=>(nA hv e1).2.2.2.1 e2,fun _ _ _ _=>rfl,fun j y a e _=>(hg j y _ e).2,fun _=>own1,fun _ _=>azR hE,rfl,rfl⟩
   ·obtain ⟨a1,a2,a3,a4⟩:=nA hv e1;exact ⟨a78 (a3 e2),a1,a2⟩
   ·obtain ⟨a1,a2,a3⟩:=ae4 hv e;exact ⟨a1,a2,a3,ak5 ⟨rfl,rfl,rfl,rfl,rfl⟩ hr hc (hg j y g e)⟩
  have hu:(A.deeper (envOfC qual (aU st) s.heap.objs.size f (.ref cC))).units+64 < cLine:=by have:=hr.un;omega
  have pe:=aoH (X:=j9 false (jB P w) P w K mg base S.N qual (aU st) f (.ref cC) A outer s H E) (p:=p1) (pos:=p4) (p2:=p2) (pos2:=p3) (kp:=kp) (T:=T) (cC:=cC) (ix:=ix) LO rfl hr.in1.in1 hu hgs hms hgr hmr hix hxc hcf hC hbt rfl (hd _) hq (fG SS.si ce e hke) (bK hse) rfl;have pb:=aB9 (okB c1 SS pre h1) (ahR (aiH (pos:=p5) (SS.l0 (by decide)) (aiG pe) (arD SS htg hkt) (okB c2 SS body h2) (a9P rfl)) (okB c3 SS post h3));refine ⟨_,pb,pO S.N.length ds,G,_,?_,g,q,⟨fun ρ G' σ' H' s1 g1 q1=>kk .non H' .non G' .non g1 q1,fun d G' v H' r1 g1 q1=>kk v H' d G' r1 g1 q1,fun _ _ _ _ _ _ z=>z.elim,fun _ _ _ _ _ _ z=>z.elim⟩⟩;unfold pO L2.start;rw [r.length];exact SR.entry r
end
end L4
namespace L4
open PySem PySem.Spec PyProof.Rows L2
variable {P:Str->GT->Prop}
theorem gln:∀ (j:Nat) (y:Str) (g:GT),([]:List (Str×GT))[j]?=some (y,g)->P y g:=fun j y g h=>by simp at h
theorem lH {x:Str} {g:GT} {l:List (Str×GT)} (h:P x g) (r:∀ (j:Nat) (y:Str) (g:GT),l[j]?=some (y,g)->P y g):∀ (j:Nat) (y:Str) (g':GT),((x,g) :: l)[j]?=some (y,g')->P y g'
 | 0,y,g',e=>by simp at e;obtain ⟨e1,e2⟩:=e;subst e1;subst e2;exact h
 | j+1,y,g',e=>r j y g' (by simpa using e)
section
variable {P:Program} {w:World} {K:Fg} {mg:Str->Option Value} {base:Heap} {k:Nat} {x:Str}
end
theorem a7A:bootBuiltins "enumerate" = some (.type "enumerate"):=by decide +kernel
theorem a1Y:bootBuiltins "range" = some (.type "range"):=by decide +kernel
end L4
namespace L4
open PySem PySem.Spec PyProof.Rows L2
theorem ae6 {K:Fg} {fd:FuncData} {ps:List Str} (h:∀ us:List Value,us.length=ps.length->bindArgs fd ⟨us,[]⟩=pure (ps.zip us)):Binds K fd ps []:=Binds.all h
end L4
namespace L5
open PySem PySem.Spec PyProof.Rows L2 L4
def onB (x:D) (f:Bool->Prop):Prop:=match x with
 | .bl k=>f k
 | _=>False
def onI (x:D) (f:Int->Prop):Prop:=match x with
 | .int k=>f k
 | _=>False
theorem aw5 {k:Bool} {f:Bool->Prop}:onB (.bl k) f=f k:=rfl
theorem ap1 {k:Int} {f:Int->Prop}:onI (.int k) f=f k:=rfl
def a1Z (xs:List D):Prop:=xs.length<=sizeLine
theorem aw6:a1Z []=True:=eq_true (show 0<=sizeLine by decide)
variable {a0:D}
theorem aw7:a1Z [a0]=True:=eq_true (show 1<=sizeLine by decide)
variable {a1:D}
theorem aw8:a1Z [a0,a1]=True:=eq_true (show 2<=sizeLine by decide)
variable {a2:D}
theorem aw9:a1Z [a0,a1,a2]=True:=eq_true (show 3<=sizeLine by decide)
theorem awA {a3:D}:a1Z [a0,a1,a2,a3]=True:=eq_true (show 4<=sizeLine by decide)
variable {r:RM3}{Q:Bool->Gp->Prop}{T:String}{p q:Addr}{xs:List D}
section
variable {t u:bH} {F:cH} {ρ:aN} {G:Gp} {R:dX} {te ta tb tc:cF} {tt tt':vM} {tA:pK} {K:Fg}
theorem aBB:aM t u F ρ G=t { F with nx:=u F } ρ G:=rfl
theorem awB:bU F ρ G=F.nx ρ G:=rfl
theorem awC:jA te F ρ G=te ρ G fun _ G1=>F.nx ρ G1:=rfl
theorem aBC:cD te F ρ G=te ρ G F.rt:=rfl
theorem aBD:cP tt t u F ρ G=tt ρ G fun b G1=>if b=true then t F ρ G1 else u F ρ G1:=rfl
theorem aBE {i:Nat}:bO i te F ρ G=te ρ G fun x G1=>F.nx (uP ρ i x) G1:=rfl
theorem x_c {d:D}:aR d ρ G R=R d G:=rfl
theorem awD {d:D}:aA 0 (some d :: ρ) G R=R d G:=rfl
theorem awE {o:Option D} {n:Nat}:aA (n+1) (o :: ρ) G R=aA n ρ G R:=rfl
theorem akB {o:Option D} {d:D}:uP (o :: ρ) 0 d=some d :: ρ:=rfl
theorem akC {o:Option D} {n:Nat} {d:D}:uP (o :: ρ) (n+1) d=o :: uP ρ n d:=rfl
theorem akD {o:Option D}:pP (o :: ρ) 0=none :: ρ:=rfl
theorem akE {o:Option D} {n:Nat}:pP (o :: ρ) (n+1)=o :: pP ρ n:=rfl
theorem aFK {r:R3}:aC r ta tb ρ G R=ta ρ G fun x G1=>tb ρ G1 fun y G2=>r x y G2 R:=rfl
theorem awF:aO te ρ G Q=te ρ G fun x G1=>onB x fun k=>Q k G1:=rfl
theorem ap2 {r r':R3}:jT r r' ta tb tc ρ G R=ta ρ G fun x G1=>tb ρ G1 fun y G2=>r x y G2 fun z G3=>onB z fun k=>if k=true then tc ρ G3 fun w G4=>r' y w G4 R else R (.bl false) G3:=by
 unfold jT;congr 1;funext x G1;congr 1;funext y G2;congr 1;funext z G3;cases z with
 | bl k=>cases k <;> rfl
 | _=>rfl
theorem aBF:qU tt tt' ρ G Q=tt ρ G fun c G1=>if c=true then tt' ρ G1 Q else Q false G1:=rfl
theorem aFL:a0X tt tt' ρ G Q=tt ρ G fun c G1=>if c=true then Q true G1 else tt' ρ G1 Q:=rfl
theorem aBG:rO tt ρ G Q=tt ρ G fun c G1=>Q (!c) G1:=rfl
theorem awG:rP ta tb ρ G R=ta ρ G fun x G1=>onB x fun k=>if k=true then tb ρ G1 R else R (.bl false) G1:=by
 unfold rP;congr 1;funext x G1;cases x with
 | bl k=>cases k <;> rfl
 | _=>rfl
theorem awH:a6A ta ρ G R=ta ρ G fun x G1=>onB x fun k=>R (.bl (!k)) G1:=rfl
theorem aBH:a4N ta ρ G R=ta ρ G fun x G1=>onI x fun k=>R (.int (-k)) G1:=rfl
theorem aBI:an6 tt ta tb ρ G R=tt ρ G fun c G1=>if c=true then ta ρ G1 R else tb ρ G1 R:=rfl
theorem aBJ {Q:List D->Gp->Prop}:aD ρ G Q=Q [] G:=rfl
theorem awI {Q:List D->Gp->Prop}:aB te tA ρ G Q=te ρ G fun x G1=>tA ρ G1 fun xs G2=>Q (x :: xs) G2:=rfl
theorem aBK:fL tA ρ G R=tA ρ G fun xs G1=>a1Z xs/\R (.tup xs) G1:=rfl
theorem aBL:jH tA ρ G R=tA ρ G fun xs G1=>a1Z xs/\∀ p,G1 p=none->R (.ref p) (aG G1 p (.lst xs)):=rfl
theorem x_call {sp:iT} {ex:aN->aV}:aX sp ex tA ρ G R=tA ρ G fun ds G1=>sp ds G1 R (ex ρ):=rfl
theorem aFM {r:List D->Gp->dX->Prop}:cX r tA ρ G R=tA ρ G fun xs G1=>r xs G1 R:=rfl
theorem x_m:tM3 T r te tA ρ G R=te ρ G fun x G1=>a6H T G1 x/\tA ρ G1 fun xs G2=>r x xs G2 R:=rfl
theorem aFN:afN T r te ρ G R=te ρ G fun x G1=>a6H T G1 x/\r x [] G1 R:=rfl
theorem jX:a6H "list" G (.ref p)=((aL G p).isSome=true):=by unfold a6H;simp
variable {Q:Option Int->Gp->Prop}
theorem akF:rT ρ G Q=Q none G:=rfl
theorem awJ:a0Z te ρ G Q=te ρ G fun x G1=>onI x fun k=>Q (some k) G1:=rfl
theorem ap3 {tl th:TO3}:wW te tl th ρ G R=te ρ G fun x G1=>tl ρ G1 fun lo G2=>th ρ G2 fun hi G3=>anJ x lo hi G3 R:=rfl
theorem akG {i j:Int}:dR (.int i) (.int j) G R=R (.int (i+j)) G:=rfl
theorem aBM {i j:Int}:rR (.int i) (.int j) G R=R (.int (i - j)) G:=rfl
theorem arG {i j:Int}:gU (.int i) (.int j) G R=(agY i j/\R (.int (i * j)) G):=rfl
theorem awK {i j:Int}:dF (.int i) (.int j) G R=(asQ i j/\R (.int (i / j)) G):=rfl
theorem aBN {i j:Int}:bZ (.int i) (.int j) G R=(0 < j/\R (.int (i % j)) G):=rfl
theorem aBO {i j:Int}:zM (.int i) (.int j) G R=(asR i j/\R (.int (i ^ j.toNat)) G):=rfl
theorem x_lt {i j:Int}:yQ (.int i) (.int j) G R=R (.bl (decide (i < j))) G:=rfl
theorem aFO {i j:Int}:a07 (.int i) (.int j) G R=R (.bl (decide (j < i))) G:=rfl
theorem x_ge {i j:Int}:a8P (.int i) (.int j) G R=R (.bl (decide (j<=i))) G:=rfl
theorem aFP {i j:Int}:abR (.int i) (.int j) G R=R (.bl (decide (i<=j))) G:=rfl
theorem ap4 {i j:Int}:jV (.int i) (.int j) G R=R (.bl (i == j)) G:=by
 show (aP 20 (.int i)=true/\aP 20 (.int j)=true/\_)=_;simp [aP,eqP]
theorem ap5 {i j:Bool}:jV (.bl i) (.bl j) G R=R (.bl (i == j)) G:=by
 show (aP 20 (.bl i)=true/\aP 20 (.bl j)=true/\_)=_;simp [aP,eqP]
theorem cB {ds:List D} (h:aL G q=some ds):dY [.ref q] G R=R (.int ds.length) G:=by unfold dY;simp only [h]
theorem akH {i:Int} {d:D} (h:rJ xs i=some d):cA (.tup xs) (.int i) G R=R d G:=by unfold cA;simp only [h]
theorem jD {i:Int} {d:D} (e:aL G p=some xs) (h:rJ xs i=some d):cA (.ref p) (.int i) G R=R d G:=by unfold cA;simp only [e,h]
theorem ae7:a3L .non .non G R=R (.bl true) G:=rfl
theorem ag7:a0Y .non .non G R=R (.bl false) G:=rfl
theorem a9R {i:Int}:bW K [(.int i),.ty "int"] G R=R (.bl true) G:=by
 show ("int" ∈ yS/\R (.bl (L2.subB "int" "int")) G)=_;rw [show L2.subB "int" "int" = true from by decide];simp [yS]
theorem a7B {i:Int}:bW K [(.int i),.ty "bool"] G R=R (.bl false) G:=by
 show ("bool" ∈ yS/\R (.bl (L2.subB "int" "bool")) G)=_;rw [show L2.subB "int" "bool" = false from by decide];simp [yS]
theorem a3U:bW K [(.tup xs),.ty "tuple"] G R=R (.bl true) G:=by
 show ("tuple" ∈ yS/\R (.bl (L2.subB "tuple" "tuple")) G)=_;rw [show L2.subB "tuple" "tuple" = true from by decide];simp [yS]
theorem a6F {C C':Addr} {b:Bool} (h:G q=some (.exn C)) (e:ExC K C) (k:ur K (.ref C) (.ref C')=some b) (z:R (.bl b) G):bW K [.ref q,.ref C'] G R:=by
 unfold bW;simp only [exD,h];exact ⟨b,e,k,z⟩
end
theorem aF {G:Gp} (h:G p=some (.lst xs)):aL G p=some xs:=by unfold aL;rw [h]
theorem sX {G:Gp} (h:G p=some (.rol xs)):aL G p=some xs:=by unfold aL;rw [h]
theorem dI {G:Gp}:aL (aG G p (.lst xs)) p=some xs:=aF aJ
theorem a7C {R:dX} {d:D} {G G':Gp} (h:R d G) (l:Le G G'):bQ R d G':=⟨G,l,h⟩
theorem c7 {b:Bool} {P Q:Prop} (h1:b=true->P) (h2:b=false->Q):if b=true then P else Q:=by
 cases b
 ·exact h2 rfl
 ·exact h1 rfl
def kn (G:Gp) (d:D):Prop:=(tyD G d).isSome=true
section
variable {G:Gp} {R:dX} {K:Fg} {q:Addr}
theorem awL {x:D} {n:String} (e:tyD G x=some T) (hn:n∈yS):bW K [x,.ty n] G R=R (.bl (L2.subB T n)) G:=by
 show (match tyD G x with
  | some T=>n∈yS/\R (.bl (L2.subB T n)) G
  | none=>_)=_
 rw [e];exact propext ⟨fun h=>h.2,fun h=>⟨hn,h⟩⟩
theorem at0 {α:Type} {a:α} {xs:List α}:rJ (a :: xs) 0=some a:=by
 unfold rJ ixN;simp
theorem atS {α:Type} {a:α} {xs:List α} {n:Nat}:rJ (a :: xs) ((n+1:Nat):Int)=rJ xs (n:Int):=by
 unfold rJ ixN;have h0:(0:Int)<=((n+1:Nat):Int):=by omega
 have h1:(0:Int)<=(n:Int):=by omega
 rw [if_pos h0,if_pos h1];by_cases h:n < xs.length
 ·have a1:((n+1:Nat):Int) < ((a :: xs).length:Int):=by simp;omega
  have a2:(n:Int) < (xs.length:Int):=by omega
  rw [if_pos a1,if_pos a2];simp
 ·have a1:¬ ((n+1:Nat):Int) < ((a :: xs).length:Int):=by simp;omega
  have a2:¬ (n:Int) < (xs.length:Int):=by omega
  rw [if_neg a1,if_neg a2];rfl
theorem iC {α:Type} {xs:List α} {n:Nat}:rJ xs (n:Int)=xs[n]?:=by
 unfold rJ ixN;rw [if_pos (by omega)];by_cases h:n < xs.length
 ·rw [if_pos (by omega)];simp
 ·rw [if_neg (by omega)];simp at h;simp [h]
theorem ap6 {a:D}:cA (.tup (a :: xs)) (.int 0) G R=R a G:=akH at0
theorem ap7 {a b:D}:cA (.tup (a :: b :: xs)) (.int 1) G R=R b G:=akH (i:=((1:Nat):Int)) (by rw [atS,iC];rfl)
end
section
variable {G:Gp} {R:dX} {K:Fg} {q:Addr}
end
variable {ys:List D}
section
variable {G:Gp} {R:dX} {K:Fg}
theorem vW {a b:Addr} (h1:aL G a=some xs) (h2:aL G b=some ys) (s1:xs.all (aP 20)=true) (s2:ys.all (aP 20)=true):jV (.ref a) (.ref b) G R=R (.bl (jU xs ys)) G:=by
 show eqG G (.ref a) (.ref b) (fun b=>R (.bl b) G)=_;unfold eqG;simp only [h1,h2,s1,s2,true_and]
theorem a2A {a b:Addr} (h1:aL G a=some xs) (h2:aL G b=some ys) (s1:xs.all (aP 20)=true) (s2:ys.all (aP 20)=true):ahU (.ref a) (.ref b) G R=R (.bl (!jU xs ys)) G:=by
 show eqG G (.ref a) (.ref b) (fun b=>R (.bl (!b)) G)=_;unfold eqG;simp only [h1,h2,s1,s2,true_and]
end
section
variable {G:Gp} {R:dX} {K:Fg} {i j:Int}
theorem awM (h:-18446744073709551616 < i/\i < 18446744073709551616):gU (.int i) (.int j) G R=R (.int (i * j)) G:=by
 rw [arG];exact propext ⟨fun z=>z.2,fun z=>⟨.inl ⟨by have:=h.1;omega,by have:=h.2;omega⟩,z⟩⟩
theorem awN (h:-18446744073709551616 < j/\j < 18446744073709551616):gU (.int i) (.int j) G R=R (.int (i * j)) G:=by
 rw [arG];exact propext ⟨fun z=>z.2,fun z=>⟨.inr ⟨by have:=h.1;omega,by have:=h.2;omega⟩,z⟩⟩
theorem ap8 (h:0 < j/\j < 1073741824):dF (.int i) (.int j) G R=R (.int (i / j)) G:=by
 rw [awK];exact propext ⟨fun z=>z.2,fun z=>⟨h,z⟩⟩
theorem awO (h:0 < j):bZ (.int i) (.int j) G R=R (.int (i % j)) G:=by
 rw [aBN];exact propext ⟨fun z=>z.2,fun z=>⟨h,z⟩⟩
theorem awP (h:0<=j/\j<=1000000/\i.natAbs < 18446744073709551616):zM (.int i) (.int j) G R=R (.int (i ^ j.toNat)) G:=by
 rw [aBO];exact propext ⟨fun z=>z.2,fun z=>⟨⟨h.1,h.2.1,h.2.2⟩,z⟩⟩
end
section
variable {G:Gp} {R:dX} {K:Fg} {i j:Int}
theorem akI {α:Type} {xs:List α} {i:Int} (h0:0<=i) (h1:i < (xs.length:Int)):∃ d,rJ xs i=some d/\d∈xs:=by
 obtain ⟨n,rfl⟩:=Int.eq_ofNat_of_zero_le h0;have hn:n < xs.length:=by omega
 exact ⟨xs[n],by rw [iC];simp [hn],uz hn⟩
theorem akJ (e:aL G p=some xs) (h0:0<=i) (h1:i < (xs.length:Int)) (h:∀ d∈xs,R d G):cA (.ref p) (.int i) G R:=by
 obtain ⟨d,h2,h3⟩:=akI h0 h1;rw [jD e h2];exact h d h3
theorem a7D {m:Int} (hm:m=(xs.length:Int)) (h0:0 < m) (h:∀ d∈xs,R d (aG G p (.lst xs))):cA (.ref p) (.int (j % m)) (aG G p (.lst xs)) R:=by
 refine akJ dI (a08 _ (by omega)) ?_ h;have:=yc j h0;omega
end
section
variable {P Q:Prop} {b c:Bool} {α:Type} {a:α} {l:List α}
theorem abZ:(True/\P)=P:=true_and P
theorem ac0:(!true)=false:=rfl
theorem a9S:(!false)=true:=rfl
theorem akK:((!b)=true)=(b=false):=by cases b <;> simp
theorem ag8:(if True then P else Q)=P:=if_true ..
theorem ac1:(if False then P else Q)=Q:=if_false ..
theorem aBP:(false=true)=False:=by simp
theorem aBQ:(true=false)=False:=by simp
theorem ag9 {β:Type} {f:α->β}:(l.map f).length=l.length:=bx ..
end
end L5
namespace L6
open PySem PySem.Spec PyProof.Rows L2 L4 L5
def ap9 (x:D) (G:Gp) (Q:Src->Gp->Prop):Prop:=match x with
 | .ref p=>(match aL G p with
  | some xs=>Q (.lst p xs) G
  | none=>False)
 | .tup xs=>Q (.imm xs) G
 | .str z=>Q (.imm (signs z)) G
 | _=>False
def akL (x:D) (G:Gp) (Q:Src->Gp->Prop):Prop:=match x with
 | .ref p=>(match aL G p with
  | some xs=>Q (.lst p xs) G
  | none=>False)
 | .str z=>Q (.imm (signs z)) G
 | .tup xs=>xs.all scD=true/\∀ a,(G a=none∨G a=some (.tpl xs))->Q (.tpl a xs) (aG G a (.tpl xs))
 | _=>False
def arH (xs:List D) (G:Gp) (Q:Src->Gp->Prop):Prop:=match xs with
 | [.int j]=>-(2 ^ 62)<=j/\j < 2 ^ 62/\Q (.imm (vQ 0 j)) G
 | _=>False
def aJQ (xs:List D) (G:Gp) (Q:Src->Gp->Prop):Prop:=match xs with
 | [.ref p,.ref q]=>(match aL G p,aL G q with
  | some xs,some ys=>Q (.zip p q xs ys) G
  | _,_=>False)
 | _=>False
variable {te:cF}{ρ:aN}{R:dX}
theorem awQ {td:cF} {G:Gp}:ad9 te td ρ G R=te ρ G fun x G1=>td ρ G1 fun d G2=>sJ x d G2 R:=rfl
variable {p:Addr}{ns:List Int}
theorem awR {G:Gp} {d:D} (hp:aL G p=some (ns.map D.int)) (h0:ns=[]->R d G) (h:∀ M,M∈ns->(∀ a∈ns,a<=M)->R (.int M) G):sJ (.ref p) d G R:=by
 unfold sJ;simp only [hp];exact ⟨ns,rfl,h0,h⟩
section
variable {te:cF} {ta:pK} {ρ:aN} {G:Gp} {Q:Src->Gp->Prop} {p:Addr} {xs:List D} {z:Str} {i j:Int}
theorem apA:nZ te ρ G Q=te ρ G fun x G1=>ap9 x G1 Q:=rfl
theorem aBR:a6O te ρ G Q=te ρ G fun x G1=>akL x G1 Q:=rfl
theorem awS:sH ta ρ G Q=ta ρ G fun xs G1=>arH xs G1 Q:=rfl
theorem oY (h:aL G p=some xs):ap9 (.ref p) G Q=Q (.lst p xs) G:=by unfold ap9;simp only [h]
theorem akM:ap9 (.tup xs) G Q=Q (.imm xs) G:=rfl
theorem oZ (h:aL G p=some xs):akL (.ref p) G Q=Q (.lst p xs) G:=by unfold akL;simp only [h]
theorem apB (h:-4611686018427387904<=j/\j < 4611686018427387904):arH [.int j] G Q=Q (.imm (vQ 0 j)) G:=by
 show (_/\_/\_)=_;exact propext ⟨fun z=>z.2.2,fun z=>⟨by omega,by omega,z⟩⟩
end
def akN (dv:D->Option (List D)) (src:Src) (tc:vM) (te:cF) (ρ:aN) (G1:Gp) (R:dX):Prop:=src.items.length < sizeLine/\∀ p,G1 p=none->∃ P:Nat->List D->Gp->Prop,P 0 [] (aG G1 p (.lst [])) /\
 (∀ k ds G,k<=src.items.length->P k ds G->src.ok G/\G p=some (.lst ds)/\ds.length<=k) /\
 (∀ k d ds G,src.items[k]?=some d->P k ds G->∃ ys,dv d=some ys/\tc (ys.map some++ρ) G fun b G2=>if b=true then te (ys.map some++ρ) G2 fun y G3=>G3 p=some (.lst ds)/\P (k+1) (ds++[y]) (aG G3 p (.lst (ds++[y]))) else P (k+1) ds G2) /\
 ∀ ds G,P src.items.length ds G->∃ G0,Le G0 G/\R (.ref p) G0
variable {dv:D->Option (List D)}{ti:TI3}{tc:vM}
theorem awT {G:Gp}:wX dv ti tc te ρ G R=ti ρ G fun src G1=>akN dv src tc te ρ G1 R:=rfl
variable {xs:List D}
theorem aY {G G':Gp} (l:Le G G') (h:aL G p=some xs):aL G' p=some xs:=by
 unfold aL at h ⊢;split at h
 ·rename_i e;rw [l _ _ e];exact h
 ·rename_i e;rw [l _ _ e];exact h
 ·cases h
variable {src:Src}
theorem aBS {G G':Gp} (l:Le G G') (h:src.ok G):src.ok G':=by
 cases src with
 | lst p xs=>exact aY l h
 | imm xs=>trivial
 | zip p q xs ys=>exact ⟨aY l h.1,aY l h.2⟩
 | itm p o kvs=>exact l _ _ h
 | key p o t kvs=>exact l _ _ h
 | tpl p xs=>exact l _ _ h
 | enu p xs=>exact aY l h
theorem awU {G G':Gp} {o o':GO} (l:Le (aG G p o) G'):Le (aG G p o') (aG G' p o'):=fun a u e=>by
 by_cases h:a=p
 ·subst h;rw [aJ] at e ⊢;exact e
 ·rw [bJ h] at e ⊢;exact l a u (by rw [bJ h];exact e)
theorem xE {G:Gp} (v:D->List D) (c:D->Bool) (f:D->D) (hl:src.items.length < sizeLine) (hok:src.ok G) (hv:∀ d∈src.items,dv d=some (v d))
  (hc:∀ d∈src.items,∀ G',Le G G'->∀ Q:Bool->Gp->Prop,(∀ G'',Le G' G''->Q (c d) G'')->tc ((v d).map some++ρ) G' Q)
  (he:∀ d∈src.items,c d=true->∀ G',Le G G'->∀ Q:D->Gp->Prop,(∀ G'',Le G' G''->Q (f d) G'')->te ((v d).map some++ρ) G' Q)
  (h:∀ p,G p=none->R (.ref p) (aG G p (.lst ((src.items.filter c).map f)))):akN dv src tc te ρ G R:=by
 refine ⟨hl,fun p hp=>⟨fun k ds G'=>ds=((src.items.take k).filter c).map f/\Le (aG G p (.lst ds)) G',⟨rfl,.refl _⟩,fun k ds G' hk ⟨e,l⟩=>?_,fun k d ds G' hd ⟨e,l⟩=>?_,fun ds G' ⟨e,l⟩=>?_⟩⟩
 ·refine ⟨aBS ((Le.new hp).trans l) hok,l p _ aJ,?_⟩;rw [e,bx];exact ju (List.length_filter_le _ _) (by rw [qx];omega)
 ·have hm:d∈src.items:=iw hd
  have ht:src.items.take (k+1)=src.items.take k++[d]:=by
   rw [yu,hd];rfl
  refine ⟨v d,hv d hm,hc d hm G' ((Le.new hp).trans l) _ fun G2 l2=>?_⟩;cases hcd:c d with
  | true =>
   rw [if_pos rfl];refine he d hm hcd G2 (((Le.new hp).trans l).trans l2) _ fun G3 l3=>?_;have l4:=(l.trans l2).trans l3;refine ⟨l4 p _ aJ,?_,awU l4⟩;rw [ht,vg,iy,← e];simp [hcd]
  | false =>
   rw [if_neg (by decide)];refine ⟨?_,l.trans l2⟩;rw [ht,vg,iy,← e];simp [hcd]
 ·rw [uw] at e;subst e;exact ⟨_,l,h p hp⟩
def ae8 (src:Src) (tg:TG3) (tb:bH) (F:cH) (ρ:aN) (G1:Gp):Prop:=∃ P:Nat->aN->Gp->Prop,P 0 ρ G1/\(∀ k ρ G,k<=src.items.length->P k ρ G->src.ok G) /\
 (∀ k d ρ G,src.items[k]?=some d->P k ρ G->tg d ρ fun ρ2=>tb { F with nx:=P (k+1),ct:=P (k+1),bk:=F.nx } ρ2 G)/\∀ ρ G,P src.items.length ρ G->F.nx ρ G
variable {tg:TG3}{tb:bH}{F:cH}
theorem awV {G:Gp}:jC ti tg tb F ρ G=ti ρ G fun src G1=>ae8 src tg tb F ρ G1:=rfl
variable {Q:aN->Prop}
theorem apC {i:Nat} {d:D}:vR i d ρ Q=Q (uP ρ i d):=rfl
variable {is:List Nat}{ds:List D}
theorem sY (h:ds.length=is.length):uW is (.tup ds) ρ Q=Q (zO ρ is ds):=propext ⟨fun z=>z.2,fun z=>⟨h,z⟩⟩
theorem apD:zO ρ is []=ρ:=by cases is <;> rfl
theorem ae9 {i:Nat} {d:D}:zO ρ (i :: is) (d :: ds)=zO (uP ρ i d) is ds:=rfl
theorem a9T {G:Gp} {j:Int} (P:Nat->aN->Gp->Prop) (h0:P 0 ρ G)
  (hb:∀ (k:Nat) ρ G,(k:Int) < j->P k ρ G->tg (.int k) ρ fun ρ2=>tb { F with nx:=P (k+1),ct:=P (k+1),bk:=F.nx } ρ2 G) (he:∀ ρ G,P j.toNat ρ G->F.nx ρ G):ae8 (.imm (vQ 0 j)) tg tb F ρ G:=by
 have hlen:(Src.imm (vQ 0 j)).items.length=j.toNat:=by simp [Src.items,vQ]
 refine ⟨P,h0,fun _ _ _ _ _=>trivial,fun k d ρ G hd p=>?_,fun ρ G p=>he ρ G (hlen ▸ p)⟩;have hk:k < j.toNat:=by rw [← hlen];exact (cj.mp hd).1
 have e:d = .int k:=by
  have:(vQ 0 j)[k]?=some d:=hd;unfold vQ at this;rw [gw,List.getElem?_range (by omega)] at this;simp at this;exact this.symm
 subst e;exact hb k ρ G (by omega) p
variable {q:Addr}
theorem sZ {G:Gp} (P:Nat->aN->Gp->Prop) (h0:P 0 ρ G) (hs:∀ k ρ G,P k ρ G->aL G q=some xs)
  (hb:∀ k d ρ G,xs[k]?=some d->P k ρ G->tg d ρ fun ρ2=>tb { F with nx:=P (k+1),ct:=P (k+1),bk:=F.nx } ρ2 G) (he:∀ ρ G,P xs.length ρ G->F.nx ρ G):ae8 (.lst q xs) tg tb F ρ G :=
 ⟨P,h0,fun k ρ G _ p=>hs k ρ G p,hb,he⟩
variable {es:List D}
section
variable {G:Gp} {R:dX}
theorem aBT {i j:Int}:sI [.int i,.int j] G R=R (.int (if j < i then j else i)) G:=rfl
theorem aBU {i j:Int}:yZ [.int i,.int j] G R=R (.int (if i < j then j else i)) G:=rfl
theorem p7 {d:D} (h:G p=some (.lst ds)) (hl:ds.length < sizeLine):eN (.ref p) [d] G R=R .non (aG G p (.lst (ds++[d]))):=by
 unfold eN;simp only [h,hl,true_and]
theorem akO {b:Addr} (h:G p=some (.lst ds)) (h2:G b=some (.lst es)) (hl:ds.length+es.length<=sizeLine):sG (.ref p) [.ref b] G R=R .non (aG G p (.lst (ds++es))):=by
 unfold sG;simp only [h,h2,hl,true_and]
theorem arI {b:Addr} (h:G p=some (.lst ds)) (h2:G b=some (.lst es)) (hl:ds.length+es.length<=sizeLine):dR (.ref p) (.ref b) G R=∀ q,G q=none->R (.ref q) (aG G q (.lst (ds++es))):=by
 unfold dR;simp only [h,h2,hl,true_and]
theorem a2B (h:aL G q=some ds):vP [.ref q] G R=∀ l,G l=none->R (.ref l) (aG G l (.lst ds)):=by
 unfold vP;simp only [h]
end
theorem awW {G:Gp} {a:Addr} {o:GO} (h:G a=some o) (n:G p=none):a≠p:=fun e=>by subst e;rw [h] at n;cases n
def akP (o i v:D) (F:cH) (ρ:aN) (G3:Gp):Prop:=match o,i with
 | .ref p,.int k=>(match G3 p with
  | some (.lst xs)=>(match ixN xs.length k with
   | some j=>F.nx ρ (aG G3 p (.lst (xs.set j v)))
   | none=>False)
  | _=>False)
 | _,_=>False
theorem a7E {to ti:cF} {G:Gp}:vN to ti te F ρ G=te ρ G fun v G1=>to ρ G1 fun o G2=>ti ρ G2 fun i G3=>akP o i v F ρ G3:=rfl
theorem xF {k:Int} {v:D} {G:Gp} (h:G p=some (.lst xs)) (h0:0<=k) (h1:k < (xs.length:Int)):akP (.ref p) (.int k) v F ρ G=F.nx ρ (aG G p (.lst (xs.set k.toNat v))):=by
 unfold akP;have e:ixN xs.length k=some k.toNat:=by unfold ixN;rw [if_pos h0,if_pos h1]
 simp only [h,e]
section
variable {G:Gp} {R:dX} {F:cH} {ρ:aN}
theorem awX:yX is te F ρ G=te ρ G fun d G1=>uW is d ρ fun ρ2=>F.nx ρ2 G1:=rfl
theorem aBV {i:Nat} {f:Int->Int->Int}:ad5 i f te F ρ G=aA i ρ G fun x G0=>onN x fun a=>te ρ G0 fun y G1=>onN y fun b=>F.nx (uP ρ i (.int (f a b))) G1:=rfl
theorem aBW {k:Int} {f:Int->Prop}:onN (.int k) f=f k:=rfl
theorem apE {a b:Int}:aoO true a b=a - b:=rfl
theorem a9U:∀ ns ms:List Int,ns.map D.int=ms.map D.int->ns=ms
 | [],[],_=>rfl
 | [],_ :: _,e=>by cases e
 | _ :: _,[],e=>by cases e
 | n :: ns,m :: ms,e=>by
  simp only [jm,List.cons.injEq] at e;obtain ⟨e1,e2⟩:=e;cases e1;rw [a9U ns ms e2]
theorem arJ (h:aL G q=some (ns.map D.int)):a93 [.ref q] G R=R (.int ns.sum) G:=by
 refine propext ⟨fun z=>?_,fun z=>?_⟩
 ·have z':(match aL G q with
   | some ds=>∃ ns:List Int,ds=ns.map D.int/\R (.int ns.sum) G
   | none=>False):=z
  rw [h] at z';obtain ⟨ms,e,r⟩:=z';rw [a9U ns ms e];exact r
 ·show (match aL G q with
   | some ds=>∃ ns:List Int,ds=ns.map D.int/\R (.int ns.sum) G
   | none=>False)
  rw [h];exact ⟨ns,rfl,z⟩
theorem aeA (h:G p=some (.lst ds)):uL (.ref p) [] G R=R .non (aG G p (.lst [])):=by
 unfold uL a95;simp only [h]
theorem apF {ys:List D}:ad7 (.tup xs) (.tup ys) G R=(a6P G xs ys=true/\R (.bl (!vU G xs ys)) G):=rfl
end
end L6
namespace L7
open PySem PySem.Spec PyProof.Rows L2 L4 L5 L6
section
variable {ρ:aN} {G:Gp} {R:dX} {F:cH} {p:Addr}
theorem aBX {i:Nat} {t:bH}:a9A i t F ρ G=t { nx:=fun ρ G=>F.nx (pP ρ i) G,rt:=F.rt,bk:=fun ρ G=>F.bk (pP ρ i) G,ct:=fun ρ G=>F.ct (pP ρ i) G } (pP ρ i) G:=rfl
end
end L7
namespace L8
open PySem PySem.Spec PyProof.Rows L2 L4 L5 L6 L7
section
variable {ρ:aN} {G:Gp} {R:dX} {F:cH} {p C:Addr} {f m:Str} {fs:List (Str×D)}
end
end L8
namespace L9
open PySem PySem.Spec PyProof.Rows L2 L4 L5 L6 L7 L8
section
variable {ρ:aN} {G:Gp} {R:dX} {F:cH} {p:Addr}
noncomputable abbrev ky (a p:Int):List Key:=[.inl a,.inl p]
end
end L9
namespace L10
open PySem PySem.Spec PyProof.Rows L2 L4 L5 L6
section
variable {ρ:aN} {G:Gp} {F:cH} {p:Addr} {al t:Bool} {od:Obj} {kvs:List (DK×D)} {Q:Src->Gp->Prop} {tg:TG3} {tb:bH}
end
end L10
namespace L11
open PySem PySem.Spec PyProof.Rows L2 L4 L5 L6
def akQ (xs:List D) (G1:Gp) (R:Src->Gp->Prop):Prop:=match xs with
 | [.ref a]=>(match aL G1 a with
  | some ds=>R (.enu a ds) G1
  | none=>False)
 | _=>False
section
variable {ρ:aN} {G:Gp} {F:cH} {p:Addr} {xs:List D} {Q:Src->Gp->Prop} {tg:TG3} {tb:bH} {R:dX}
theorem akR {ta:pK}:a6X ta ρ G Q=ta ρ G fun xs G1=>akQ xs G1 Q:=rfl
theorem akS (hp:aL G p=some xs) (h:Q (.enu p xs) G):akQ [.ref p] G Q:=by
 unfold akQ;simp only [hp];exact h
theorem akT (P:Nat->aN->Gp->Prop) (h0:P 0 ρ G) (hs:∀ k ρ G,P k ρ G->aL G p=some xs)
  (hb:∀ k d ρ G,xs[k]?=some d->P k ρ G->tg (.tup [.int k,d]) ρ fun ρ2=>tb { F with nx:=P (k+1),ct:=P (k+1),bk:=F.nx } ρ2 G) (he:∀ ρ G,P xs.length ρ G->F.nx ρ G):ae8 (.enu p xs) tg tb F ρ G:=by
 refine ⟨P,h0,fun k ρ G _ q=>hs k ρ G q,fun k d ρ G e q=>?_,fun ρ G q=>he ρ G (by rw [← a6W];exact q)⟩
 have hk:k < xs.length:=by
  have:=(cj.mp e).1;rw [show (Src.enu p xs).items=enm xs from rfl,a6W] at this;exact this
 have e2:=adH (dj hk);rw [show (Src.enu p xs).items=enm xs from rfl,e2] at e;cases e;exact hb k _ ρ G (dj hk) q
end
end L11
namespace L12
open PySem PySem.Spec PyProof.Rows L2 L4 L5 L6
section
variable {G:Gp} {R:dX} {p:Addr}
end
end L12
namespace L13
open PySem PySem.Spec PyProof.Rows L2 L4 L5 L6
variable {te:cF}
section
variable {ρ:aN} {G:Gp} {F:cH} {p:Addr} {xs:List D} {R:dX}
def akU (o i:D) (f:Int->Int->Int) (te:cF) (F:cH) (ρ:aN) (G2:Gp):Prop:=match o,i with
 | .ref p,.int k=>(match G2 p with
  | some (.lst xs)=>0<=k/\k < xs.length/\ajL F f te ρ G2 p xs k.toNat
  | _=>False)
 | _,_=>False
theorem awY {to ti:cF} {f:Int->Int->Int}:a74 to ti te f F ρ G=to ρ G fun o G1=>ti ρ G1 fun i G2=>akU o i f te F ρ G2:=rfl
theorem akV {k a:Int} {f:Int->Int->Int} (h:G p=some (.lst xs)) (h0:0<=k) (h1:xs[k.toNat]?=some (.int a)) (hn:te ρ G fun y G3=>onN y fun b=>G3 p=some (.lst xs)/\F.nx ρ (aG G3 p (.lst (xs.set k.toNat (.int (f a b)))))):akU (.ref p) (.int k) f te F ρ G:=by
 have jl:=(cj.mp h1).1;unfold akU;simp only [h];refine ⟨h0,by omega,?_⟩;unfold ajL;rw [show xs.getD k.toNat .non = .int a by simp [iz,h1]];exact hn
def awZ (x:D) (T:Addr) (c:oV) (ix:Nat) (sp:iT) (ρ:aN) (G1:Gp) (R:dX):Prop:=∃ (n:Nat) (dx:D),x = .int n/\n < 64/\at3 ρ ix=some dx/\G1 T=some (.tab c.qual c.pos)/\sS sp dx (fun ks G2=>zG (vV n) ks G2 R) (vV n) [] G1
theorem apH {T:Addr} {c:oV} {ix:Nat} {sp:iT}:a75 te T c ix sp ρ G R=te ρ G fun x G1=>awZ x T c ix sp ρ G1 R:=rfl
theorem arK {k:Int} (h:G p=some (.lst xs)) (h0:0<=k) (h1:k < 2 ^ 63) (h2:xs.length * k.toNat<=sizeLine) (hr:∀ q,G q=none->R (.ref q) (aG G q (.lst (gq k.toNat xs).flatten))):gU (.ref p) (.int k) G R:=by
 unfold gU;simp only [h];exact ⟨h0,h1,h2,hr⟩
theorem aFQ {ns ms:List Int} (h:R (.bl (HT.lexLe ns ms)) G):abR (.tup (ns.map D.int)) (.tup (ms.map D.int)) G R:=⟨ns,ms,rfl,rfl,h⟩
theorem akW (h:aL G p=some xs) (hs:aqZ xs G R):pW [.ref p] G R:=by
 unfold pW;simp only [h];exact hs
theorem aeB {sp:iT} {dx:D} {C:List D->Gp->Prop} (f:D->D):∀ (ds ks:List D) (G:Gp),(∀ d∈ds,∀ G',Le G G'->∀ R:dX,(∀ G'',Le G' G''->R (f d) G'')->sp [dx,d] G' R (fun _ _=>False))->(∀ G',Le G G'->C (ks++ds.map f) G')->sS sp dx C ds ks G
 | [],ks,G,_,h=>by
  have:=h G (.refl G);rw [a0s,um] at this;exact this
 | d :: ds,ks,G,hk,h=>hk d (jj ..) G (.refl G) _ fun G1 l1=>aeB f ds (ks++[f d]) G1 (fun e he G' l=>hk e (iu _ he) G' (l1.trans l)) fun G' l=>by
   have:=h G' (l1.trans l);simpa using this
end
end L13
namespace Law
open PySem PySem.Spec PyProof.Rows L2 L4 PySem.W
noncomputable def top (i:Nat):Stmt:=PySem.Challenge.pw_depot_k54_whole_shares.main.body.getD i (.Pass ⟨0,0,0,0⟩)
noncomputable abbrev akX:Stmt:=top 1
noncomputable abbrev xG:Stmt:=top 2
noncomputable abbrev a2C:Stmt:=top 3
noncomputable abbrev zT:Stmt:=top 4
noncomputable abbrev aeC:Stmt:=top 5
noncomputable abbrev cT:Stmt:=top 6
noncomputable abbrev tD:Stmt:=top 8
noncomputable abbrev xH:Stmt:=top 9
noncomputable abbrev a2D:Stmt:=top 10
noncomputable abbrev a2E:Stmt:=top 11
noncomputable abbrev uZ:Stmt:=top 12
noncomputable abbrev xJ:Stmt:=top 13
noncomputable abbrev zU:Stmt:=top 14
noncomputable abbrev zV:Stmt:=top 15
noncomputable abbrev xK:Stmt:=top 16
noncomputable abbrev nC:Stmt:=top 17
noncomputable abbrev zW:Stmt:=top 18
noncomputable abbrev a9V:Stmt:=top 19
set_option genInjectivity false in
structure bF where
 ac2:Addr
 a2F:FuncData
 pX:Addr
 fO:FuncData
 vX:Addr
 lW:FuncData
 tE:Addr
 iV:FuncData
 a7F:Addr
 xM:FuncData
 a2G:Addr
 p8:FuncData
 lX:Addr
 dZ:FuncData
 pY:Addr
 fP:FuncData
 vY:Addr
 lY:FuncData
 vZ:Addr
 lZ:FuncData
 o8:Addr
 eO:FuncData
 pZ:Addr
 fQ:FuncData
 tG:Addr
 iW:FuncData
 tH:Addr
 iY:FuncData
 qC:Addr
 fU:FuncData
 fV:Addr
 cU:FuncData
 tK:Addr
 iZ:FuncData
 zX:Addr
 akY:FuncData
 dJ:Addr
 tL:Addr
def Bse (base:Heap) (mg:Str->Option Value) (A:bF):Prop:=base.BuiltinsAt mg A.dJ/\CodeHd base A.tL A.dJ
noncomputable def a9W (K:Fg) (A:bF) (ex:aN->aV):bH :=
  (cD (aC rR (aA 3) (cX a93 (aB (mZ 2 (nZ (aA 1)) (aO (aC a8P (aA 0) (aA 4))) (aA 1)) aD))))
noncomputable def ac3 (K:Fg) (A:bF) (ex:aN->aV):bH :=
  aM (bO 3 (cX a93 (aB (mZ 2 (nZ (aA 0)) (aO (aC a8P (aA 0) (aA 4))) (aA 1)) aD))) (a9W K A ex)
noncomputable def a0H (K:Fg) (A:bF):iT:=spD 4 3 fun EX=>ac3 K A (fun _=>EX)
noncomputable def ax0:CB:=(.cons (.set 3 (.call 0 (.cons (.zQ 2 [false,false,true,false] [false] (.any (.var 0)) (.some (.cmp .GtE (.var 0) (.var 4))) (.var 1)) .nil))) (.cons (.ret (.bin .Sub (.var 3) (.call 0 (.cons (.zQ 2 [false,false,true,false] [false] (.any (.var 1)) (.some (.cmp .GtE (.var 0) (.var 4))) (.var 1)) .nil)))) .nil))
noncomputable def ax1 (K:Fg) (A:bF):SI:=⟨["stock", "asks", "day", "lies"],[true,true,true,true],[true,true,false,true],[false,false,true,false],[("sum",.bf .sum)],[true],true,false⟩
noncomputable def qD (K:Fg) (A:bF) (ex:aN->aV):bH :=
  (cD (mZ 2 (nZ (aA 1)) (aO (aC yQ (aX (a0H K A) NoX (aB (aA 2) (aB (aA 3) (aB (aA 0) aD)))) (aR (.int 0)))) (aA 0)))
noncomputable def dN (K:Fg) (A:bF):iT:=spD 2 2 fun EX=>qD K A (fun _=>EX)
noncomputable def a7H:CB:=(.cons (.ret (.zQ 2 [true,true] [true] (.any (.var 1)) (.some (.cmp .Lt (.call 0 (.cons (.var 2) (.cons (.var 3) (.cons (.var 0) .nil)))) (.con (.int 0)))) (.var 0))) .nil)
noncomputable def a7I (K:Fg) (A:bF):SI:=⟨["stock", "asks"],[true,true],[false,false],[true,true],[("rest",.fn (a0H K A) 3 false)],[false],true,false⟩
noncomputable def w5 (K:Fg) (A:bF) (ex:aN->aV):bH :=
  (cD (aC jV (cX dY (aB (aX (dN K A) ex (aB (aA 0) (aB (aA 1) aD))) aD)) (aR (.int 0))))
noncomputable def fH (K:Fg) (A:bF):iT:=spD 2 2 fun EX=>w5 K A (fun _=>EX)
noncomputable def ac4:CB:=(.cons (.ret (.cmp .Eq (.call 1 (.cons (.call 0 (.cons (.var 0) (.cons (.var 1) .nil))) .nil)) (.con (.int 0)))) .nil)
noncomputable def ac5 (K:Fg) (A:bF):SI:=⟨["stock", "asks"],[true,true],[true,true],[false,false],[("short_days",.fn (dN K A) 2 false),("len",.bf .len)],[true,true],true,false⟩
noncomputable def tM (K:Fg) (A:bF) (ex:aN->aV):bH :=
  (cD (ad9 (aX (dN K A) ex (aB (aA 0) (aB (aA 1) aD))) (aR .non)))
noncomputable def jY (K:Fg) (A:bF):iT:=spD 2 2 fun EX=>tM K A (fun _=>EX)
noncomputable def a9X:CB:=(.cons (.ret (.maxD 0 (.call 1 (.cons (.var 0) (.cons (.var 1) .nil))) (.con .non))) .nil)
noncomputable def a9Y (K:Fg) (A:bF):SI:=⟨["stock", "asks"],[true,true],[true,true],[false,false],[("max",.bf .max),("short_days",.fn (dN K A) 2 false)],[true,true],true,false⟩
noncomputable def qW (K:Fg) (A:bF) (ex:aN->aV):bH :=
  (ad5 3 (aoO true) (aA 7))
noncomputable def qX (K:Fg) (A:bF) (ex:aN->aV):bH :=
  aM (a74 (aA 1) (aA 5) (aA 7) (aoO true)) (qW K A ex)
noncomputable def jZ (K:Fg) (A:bF) (ex:aN->aV):bH :=
  (cP (aO (aC a07 (aA 7) (aR (.int 0)))) (aM (jA (tM3 "list" eN (aA 4) (aB (fL (aB (aA 5) (aB (aA 7) aD))) aD))) (qX K A ex)) bU)
noncomputable def a2H (K:Fg) (A:bF) (ex:aN->aV):bH :=
  aM (bO 7 (an6 (aO (aC a8P (aC cA (aA 6) (aR (.int 0))) (aA 2))) (cX sI (aB (aC cA (aA 1) (aA 5)) (aB (aA 3) aD))) (aR (.int 0)))) (jZ K A ex)
noncomputable def a5E (K:Fg) (A:bF) (ex:aN->aV):bH :=
  (cD (aA 4))
noncomputable def a5F (K:Fg) (A:bF) (ex:aN->aV):bH :=
  aM (jC (a6X (aB (aA 0) aD)) (uW [5,6]) (a2H K A ex)) (a5E K A ex)
noncomputable def a7J (K:Fg) (A:bF) (ex:aN->aV):bH :=
  aM (bO 4 (jH aD)) (a5F K A ex)
noncomputable def xO (K:Fg) (A:bF):iT:=spD 8 4 fun EX=>a7J K A (fun _=>EX)
noncomputable def apI:CB:=(.cons (.set 4 (.lst .nil)) (.cons (.a3T (.enu (.var 0)) (.tup [5,6]) (.cons (.set 7 (.ifx (.cmp .GtE (.ix (.var 6) (.con (.int 0))) (.var 2)) (.call 1 (.cons (.ix (.var 1) (.var 5)) (.cons (.var 3) .nil))) (.con (.int 0)))) (.cons (.ifs (.cmp .Gt (.var 7) (.con (.int 0))) (.cons (.expr (.meth .append (.var 4) (.cons (.tup (.cons (.var 5) (.cons (.var 7) .nil))) .nil))) (.cons (.aoN (.var 1) (.var 5) true (.var 7)) (.cons (.aug 3 true (.var 7)) .nil))) .nil) .nil))) (.cons (.ret (.var 4)) .nil)))
noncomputable def apJ (K:Fg) (A:bF):SI:=⟨["stock", "left", "day", "wanted", "pairs", "place", "pair", "grains"],[true,true,true,true,true,true,true,true],[true,true,true,true,true,true,true,true],[false,false,false,false,false,false,false,false],[("enumerate",.bt "enumerate"),("min",.bf .min)],[true,true],true,false⟩
noncomputable def bL:oV:=aw3 "shares" "asks" (inBody cT 3)
noncomputable def kJ (K:Fg) (A:bF) (ex:aN->aV):cF :=
  (a4N (aC cA (aC cA (aA 0) (aA 1)) (aR (.int 0))))
noncomputable def eU (K:Fg) (A:bF):iT:=spL 2 2 (kJ K A (fun _=>gW fun _ _=>False))
noncomputable def xP:CE:=(.neg (.ix (.ix (.fre 0) (.var 1)) (.con (.int 0))))
noncomputable def xQ (K:Fg) (A:bF):SI:=⟨["asks", "number"],[false,true],[false,true],[true,false],[],[],true,false⟩
noncomputable def xR (K:Fg) (A:bF) (ex:aN->aV):bH :=
  (bO 3 (jH aD))
noncomputable def xT (K:Fg) (A:bF) (ex:aN->aV):bH :=
  aM (bO 2 (mZ 2 (nZ (aA 0)) yV (aA 1))) (xR K A ex)
noncomputable def xU (K:Fg) (A:bF) (ex:aN->aV):bH :=
  (jA (tM3 "list" sG (aA 3) (aB (mZ 2 (nZ (aA 5)) yV (fL (aB (aA 6) (aB (aA 0) (aB (aA 1) aD))))) aD)))
noncomputable def zY (K:Fg) (A:bF) (ex:aN->aV):bH :=
  aM (cP (rO (aO (aX (fH K A) ex (aB (aA 0) (aB (aA 1) aD))))) (cD (aR .non)) bU) (xT K A ex)
noncomputable def tO (K:Fg) (A:bF) (ex:aN->aV):bH :=
  aM (bO 5 (aX (xO K A) ex (aB (aA 0) (aB (aA 2) (aB (aC cA (aC cA (aA 1) (aA 4)) (aR (.int 0))) (aB (aC cA (aC cA (aA 1) (aA 4)) (aR (.int 1))) aD)))))) (xU K A ex)
noncomputable def zZ (K:Fg) (A:bF) (ex:aN->aV):bH :=
  (cD (cX pW (aB (aA 3) aD)))
noncomputable def xV (K:Fg) (A:bF) (ex:aN->aV):bH :=
  aM (zY K A ex) (aM (jC (a6O (a75 (cX dY (aB (aA 1) aD)) A.dJ bL 1 (eU K A))) (vR 4) (tO K A ex)) (zZ K A ex))
noncomputable def lJ (K:Fg) (A:bF):iT:=spD 6 2 fun EX=>xV K A (fun _=>EX)
noncomputable def a2I:CB:=(.cons (.ifs (.not (.val (.call 0 (.cons (.var 0) (.cons (.var 1) .nil))))) (.cons (.ret (.con .non)) .nil) .nil) (.cons (.adW 2 2 [false,false,false,false,false,false] [false,false,false,false] (.any (.var 0)) .none (.var 1)) (.cons (.set 3 (.lst .nil)) .nil)))
noncomputable def a2J:CB:=(.cons (.set 5 (.call 2 (.cons (.var 0) (.cons (.var 2) (.cons (.ix (.ix (.var 1) (.var 4)) (.con (.int 0))) (.cons (.ix (.ix (.var 1) (.var 4)) (.con (.int 1))) .nil)))))) (.cons (.expr (.meth .extend (.var 3) (.cons (.zQ 2 [false,false,false,false,true,false] [false,false,false,false] (.any (.var 5)) .none (.tup (.cons (.var 6) (.cons (.var 0) (.cons (.var 1) .nil))))) .nil))) .nil))
noncomputable def a2K:CB:=(.cons (.ret (.call 3 (.cons (.var 3) .nil))) .nil)
noncomputable def a2L:CE:=(.call 1 (.cons (.var 1) .nil))
noncomputable def a9Z (K:Fg) (A:bF):SI:=⟨["stock", "asks", "left", "rows", "ask", "pairs"],[true,true,true,true,true,true],[true,false,true,true,false,true],[false,true,false,false,true,false],[("keepable",.fn (fH K A) 2 false),("len",.bf .len),("given",.fn (xO K A) 4 false),("sorted",.bf .a9M)],[true,true,true,true],true,false⟩
noncomputable def pA (K:Fg) (A:bF) (ex:aN->aV):bH :=
  (cD (aC bZ (aC dR (aC gU (aA 2) (aA 2)) (aC gU (aR (.int 48271)) (aA 1))) (aR (.int 2147483629))))
noncomputable def pB (K:Fg) (A:bF) (ex:aN->aV):bH :=
  aM (bO 2 (aC bZ (aC dR (aC gU (aC cA (aA 0) (aC bZ (aA 1) (cX dY (aB (aA 0) aD)))) (aR (.int 48271))) (aC gU (aA 1) (aR (.int 104729)))) (aR (.int 2147483647)))) (pA K A ex)
noncomputable def pC (K:Fg) (A:bF) (ex:aN->aV):bH :=
  aM (cP (aO (aC jV (cX dY (aB (aA 0) aD)) (aR (.int 0)))) (cD (aR (.int 0))) bU) (pB K A ex)
noncomputable def m6 (K:Fg) (A:bF) (ex:aN->aV):bH :=
  aM (cP (aO (aC yQ (aA 1) (cX dY (aB (aA 0) aD)))) (cD (aC cA (aA 0) (aA 1))) bU) (pC K A ex)
noncomputable def aZ (K:Fg) (A:bF):iT:=spD 3 2 fun EX=>m6 K A (fun _=>EX)
noncomputable def a2M:CB:=(.cons (.ifs (.cmp .Lt (.var 1) (.call 0 (.cons (.var 0) .nil))) (.cons (.ret (.ix (.var 0) (.var 1))) .nil) .nil) (.cons (.ifs (.cmp .Eq (.call 0 (.cons (.var 0) .nil)) (.con (.int 0))) (.cons (.ret (.con (.int 0))) .nil) .nil) (.cons (.set 2 (.bin .Mod (.bin .Add (.bin .Mult (.ix (.var 0) (.bin .Mod (.var 1) (.call 0 (.cons (.var 0) .nil)))) (.con (.int 48271))) (.bin .Mult (.var 1) (.con (.int 104729)))) (.con (.int 2147483647)))) (.cons (.ret (.bin .Mod (.bin .Add (.bin .Mult (.var 2) (.var 2)) (.bin .Mult (.con (.int 48271)) (.var 1))) (.con (.int 2147483629)))) .nil))))
noncomputable def a2N (K:Fg) (A:bF):SI:=⟨["_law_script", "_law_k", "_law_more"],[true,true,true],[true,true,true],[false,false,false],[("len",.bf .len)],[true],true,false⟩
noncomputable def qF (K:Fg) (A:bF) (ex:aN->aV):bH :=
  (cD (rP (cX (bW K) (aB (aA 0) (aB (aR (.ty "int")) aD))) (a6A (cX (bW K) (aB (aA 0) (aB (aR (.ty "bool")) aD))))))
noncomputable def iK (K:Fg) (A:bF):iT:=spD 1 1 fun EX=>qF K A (fun _=>EX)
noncomputable def a7K:CB:=(.cons (.ret (.abT (.cons (.call 1 (.cons (.var 0) (.cons (.glo 0) .nil))) (.cons (.aoI (.call 1 (.cons (.var 0) (.cons (.glo 2) .nil)))) .nil)))) .nil)
noncomputable def a7L (K:Fg) (A:bF):SI:=⟨["_law_found"],[true],[true],[false],[("int",.bt "int"),("isinstance",.bf .isi),("bool",.bt "bool")],[true,true,true],true,false⟩
noncomputable def xW (K:Fg) (A:bF) (ex:aN->aV):bH :=
  (cD (aC bZ (aC dR (aC dR (aC gU (aA 2) (aA 2)) (aC gU (aR (.int 48271)) (aA 1))) (aA 2)) (aR (.int 2147483629))))
noncomputable def w6 (K:Fg) (A:bF) (ex:aN->aV):bH :=
  aM (bO 2 (aC bZ (aC dR (aC dR (aC gU (aA 0) (aR (.int 48271))) (aC gU (aA 1) (aR (.int 104729)))) (aR (.int 11))) (aR (.int 2147483647)))) (xW K A ex)
noncomputable def bR (K:Fg) (A:bF):iT:=spD 3 2 fun EX=>w6 K A (fun _=>EX)
noncomputable def ac6:CB:=(.cons (.set 2 (.bin .Mod (.bin .Add (.bin .Add (.bin .Mult (.var 0) (.con (.int 48271))) (.bin .Mult (.var 1) (.con (.int 104729)))) (.con (.int 11))) (.con (.int 2147483647)))) (.cons (.ret (.bin .Mod (.bin .Add (.bin .Add (.bin .Mult (.var 2) (.var 2)) (.bin .Mult (.con (.int 48271)) (.var 1))) (.var 2)) (.con (.int 2147483629)))) .nil))
noncomputable def ac7 (K:Fg) (A:bF):SI:=⟨["_law_number", "_law_k", "_law_more"],[true,true,true],[true,true,true],[false,false,false],[],[],true,false⟩
noncomputable def xX (K:Fg) (A:bF) (ex:aN->aV):bH :=
  (cD (aC bZ (aC dF (aA 0) (aR (.int 4))) (aR (.int 10000))))
noncomputable def wA (K:Fg) (A:bF) (ex:aN->aV):bH :=
  aM (cP (aO (aC jV (aC bZ (aA 0) (aR (.int 4))) (aR (.int 0)))) (cD (aC cA (jH (aB (aR (.int 0)) (aB (aR (.int 1)) (aB (aR (.int 9999)) (aB (aR (.int 9998)) aD))))) (aC bZ (aC dF (aA 0) (aR (.int 4))) (aR (.int 4))))) bU) (xX K A ex)
noncomputable def eE (K:Fg) (A:bF):iT:=spD 1 1 fun EX=>wA K A (fun _=>EX)
noncomputable def ac8:CB:=(.cons (.ifs (.cmp .Eq (.bin .Mod (.var 0) (.con (.int 4))) (.con (.int 0))) (.cons (.ret (.ix (.lst (.cons (.con (.int 0)) (.cons (.con (.int 1)) (.cons (.con (.int 9999)) (.cons (.con (.int 9998)) .nil))))) (.bin .Mod (.bin .FloorDiv (.var 0) (.con (.int 4))) (.con (.int 4))))) .nil) .nil) (.cons (.ret (.bin .Mod (.bin .FloorDiv (.var 0) (.con (.int 4))) (.con (.int 10000)))) .nil))
noncomputable def ac9 (K:Fg) (A:bF):SI:=⟨["_law_cell"],[true],[true],[false],[],[],true,false⟩
noncomputable def qY (K:Fg) (A:bF) (ex:aN->aV):bH :=
  (cD (aC dR (aR (.int 1)) (aC bZ (aC dF (aA 0) (aR (.int 4))) (aR (.int 9)))))
noncomputable def qZ (K:Fg) (A:bF) (ex:aN->aV):bH :=
  aM (cP (aO (aC jV (aC bZ (aA 0) (aR (.int 4))) (aR (.int 1)))) (cD (aC dR (aR (.int 1)) (aC bZ (aC dF (aA 0) (aR (.int 4))) (aC zM (aR (.int 10)) (aR (.int 6)))))) bU) (qY K A ex)
noncomputable def o9 (K:Fg) (A:bF) (ex:aN->aV):bH :=
  aM (cP (aO (aC jV (aC bZ (aA 0) (aR (.int 4))) (aR (.int 0)))) (cD (aC cA (jH (aB (aR (.int 1)) (aB (aC zM (aR (.int 10)) (aR (.int 6))) (aB (aC rR (aC zM (aR (.int 10)) (aR (.int 6))) (aR (.int 1))) (aB (aR (.int 2)) aD))))) (aC bZ (aC dF (aA 0) (aR (.int 4))) (aR (.int 4))))) bU) (qZ K A ex)
noncomputable def d8 (K:Fg) (A:bF):iT:=spD 1 1 fun EX=>o9 K A (fun _=>EX)
noncomputable def a3V:CB:=(.cons (.ifs (.cmp .Eq (.bin .Mod (.var 0) (.con (.int 4))) (.con (.int 0))) (.cons (.ret (.ix (.lst (.cons (.con (.int 1)) (.cons (.bin .Pow (.con (.int 10)) (.con (.int 6))) (.cons (.bin .Sub (.bin .Pow (.con (.int 10)) (.con (.int 6))) (.con (.int 1))) (.cons (.con (.int 2)) .nil))))) (.bin .Mod (.bin .FloorDiv (.var 0) (.con (.int 4))) (.con (.int 4))))) .nil) .nil) (.cons (.ifs (.cmp .Eq (.bin .Mod (.var 0) (.con (.int 4))) (.con (.int 1))) (.cons (.ret (.bin .Add (.con (.int 1)) (.bin .Mod (.bin .FloorDiv (.var 0) (.con (.int 4))) (.bin .Pow (.con (.int 10)) (.con (.int 6)))))) .nil) .nil) (.cons (.ret (.bin .Add (.con (.int 1)) (.bin .Mod (.bin .FloorDiv (.var 0) (.con (.int 4))) (.con (.int 9))))) .nil)))
noncomputable def a3W (K:Fg) (A:bF):SI:=⟨["_law_cell"],[true],[true],[false],[],[],true,false⟩
noncomputable def fW (K:Fg) (A:bF) (ex:aN->aV):bH :=
  (jA (tM3 "list" eN (aA 3) (aB (fL (aB (aA 6) (aB (aX (d8 K A) ex (aB (aX (bR K A) ex (aB (aA 5) (aB (aR (.int 1)) aD))) aD)) aD))) aD)))
noncomputable def nD (K:Fg) (A:bF) (ex:aN->aV):bH :=
  aM (cP (aO (aC jV (aC bZ (aC dF (aA 5) (aR (.int 9))) (aR (.int 9))) (aR (.int 1)))) (bO 6 (aX (eE K A) ex (aB (aC dF (aA 5) (aR (.int 81))) aD))) bU) (fW K A ex)
noncomputable def nF (K:Fg) (A:bF) (ex:aN->aV):bH :=
  aM (bO 6 (cX sI (aB (aR (.int 9999)) (aB (cX yZ (aB (aR (.int 0)) (aB (aC dR (aC rR (aA 1) (aR (.int 4))) (aC bZ (aA 5) (aR (.int 9)))) aD))) aD)))) (nD K A ex)
noncomputable def rB (K:Fg) (A:bF) (ex:aN->aV):bH :=
  aM (bO 5 (aX (bR K A) ex (aB (aX (aZ K A) ex (aB (aA 0) (aB (aR (.int 2)) aD))) (aB (aA 4) aD)))) (nF K A ex)
noncomputable def m7 (K:Fg) (A:bF) (ex:aN->aV):bH :=
  (cD (aA 3))
noncomputable def tQ (K:Fg) (A:bF) (ex:aN->aV):bH :=
  aM (jC (sH (aB (aA 2) aD)) (vR 4) (rB K A ex)) (m7 K A ex)
noncomputable def m8 (K:Fg) (A:bF) (ex:aN->aV):bH :=
  aM (bO 3 (jH aD)) (tQ K A ex)
noncomputable def tR (K:Fg) (A:bF) (ex:aN->aV):bH :=
  aM (cP (aO (aC jV (aC bZ (aC dF (aX (aZ K A) ex (aB (aA 0) (aB (aR (.int 1)) aD))) (aR (.int 9))) (aR (.int 8))) (aR (.int 1)))) (bO 2 (aC gU (aR (.int 3)) (aA 2))) bU) (m8 K A ex)
noncomputable def tU (K:Fg) (A:bF) (ex:aN->aV):bH :=
  aM (bO 2 (aC bZ (aX (aZ K A) ex (aB (aA 0) (aB (aR (.int 1)) aD))) (aR (.int 9)))) (tR K A ex)
noncomputable def qG (K:Fg) (A:bF) (ex:aN->aV):bH :=
  aM (bO 1 (aX (eE K A) ex (aB (aX (aZ K A) ex (aB (aA 0) (aB (aR (.int 0)) aD))) aD))) (tU K A ex)
noncomputable def iM (K:Fg) (A:bF):iT:=spD 7 1 fun EX=>qG K A (fun _=>EX)
noncomputable def a7M:CB:=(.cons (.set 1 (.call 1 (.cons (.call 0 (.cons (.var 0) (.cons (.con (.int 0)) .nil))) .nil))) (.cons (.set 2 (.bin .Mod (.call 0 (.cons (.var 0) (.cons (.con (.int 1)) .nil))) (.con (.int 9)))) (.cons (.ifs (.cmp .Eq (.bin .Mod (.bin .FloorDiv (.call 0 (.cons (.var 0) (.cons (.con (.int 1)) .nil))) (.con (.int 9))) (.con (.int 8))) (.con (.int 1))) (.cons (.set 2 (.bin .Mult (.con (.int 3)) (.var 2))) .nil) .nil) (.cons (.set 3 (.lst .nil)) (.cons (.a3T (.a9N (.var 2)) (.nm 4) (.cons (.set 5 (.call 3 (.cons (.call 0 (.cons (.var 0) (.cons (.con (.int 2)) .nil))) (.cons (.var 4) .nil)))) (.cons (.set 6 (.call 5 (.cons (.con (.int 9999)) (.cons (.call 4 (.cons (.con (.int 0)) (.cons (.bin .Add (.bin .Sub (.var 1) (.con (.int 4))) (.bin .Mod (.var 5) (.con (.int 9)))) .nil))) .nil)))) (.cons (.ifs (.cmp .Eq (.bin .Mod (.bin .FloorDiv (.var 5) (.con (.int 9))) (.con (.int 9))) (.con (.int 1))) (.cons (.set 6 (.call 1 (.cons (.bin .FloorDiv (.var 5) (.con (.int 81))) .nil))) .nil) .nil) (.cons (.expr (.meth .append (.var 3) (.cons (.tup (.cons (.var 6) (.cons (.call 6 (.cons (.call 3 (.cons (.var 5) (.cons (.con (.int 1)) .nil))) .nil)) .nil))) .nil))) .nil))))) (.cons (.ret (.var 3)) .nil))))))
noncomputable def a7N (K:Fg) (A:bF):SI:=⟨["_law_script", "_law_base", "_law_many", "_law_stock_here", "_law_k", "_law_more", "_law_due"],[true,true,true,true,true,true,true],[true,true,true,true,true,true,true],[false,false,false,false,false,false,false],[("_law_cell_at",.fn (aZ K A) 2 false),("_law_day",.fn (eE K A) 1 false),("range",.bt "range"),("_law_mix",.fn (bR K A) 2 false),("max",.bf .max),("min",.bf .min),("_law_amount",.fn (d8 K A) 1 false)],[true,true,true,true,true,true,true],true,false⟩
noncomputable def cY (K:Fg) (A:bF) (ex:aN->aV):bH :=
  (cP (qU (aO (aC jV (aC bZ (aC dF (aA 4) (aR (.int 192))) (aR (.int 3))) (aR (.int 1)))) (qU (aO (aC a07 (aA 8) (aR (.int 0)))) (qU (aO (aC yQ (aA 8) (aA 6))) (aO (aC yQ (cX dY (aB (aA 2) aD)) (aR (.int 190))))))) (jA (tM3 "list" eN (aA 2) (aB (fL (aB (cX yZ (aB (aR (.int 0)) (aB (aC rR (aA 5) (aC bZ (aC dF (aA 4) (aR (.int 576))) (aR (.int 3)))) aD))) (aB (aC rR (aA 6) (aA 8)) aD))) aD))) bU)
noncomputable def eH (K:Fg) (A:bF) (ex:aN->aV):bH :=
  aM (cP (qU (aO (aC a07 (aA 8) (aR (.int 0)))) (aO (aC yQ (cX dY (aB (aA 2) aD)) (aR (.int 190))))) (jA (tM3 "list" eN (aA 2) (aB (fL (aB (cX yZ (aB (aR (.int 0)) (aB (aC rR (aA 5) (aA 7)) aD))) (aB (aA 8) aD))) aD))) bU) (cY K A ex)
noncomputable def jJ (K:Fg) (A:bF) (ex:aN->aV):bH :=
  aM (bO 8 (aC cA (jH (aB (aA 6) (aB (aA 6) (aB (aC dR (aR (.int 1)) (aC bZ (aX (bR K A) ex (aB (aA 4) (aB (aR (.int 3)) aD))) (aA 6))) (aB (aC rR (aA 6) (aR (.int 1))) aD))))) (aC bZ (aC dF (aA 4) (aR (.int 48))) (aR (.int 4))))) (eH K A ex)
noncomputable def iD (K:Fg) (A:bF) (ex:aN->aV):bH :=
  (cP (aO (aC a07 (aC bZ (aC dF (aA 4) (aR (.int 3))) (aR (.int 4))) (aR (.int 0)))) (aM (bO 7 (aC cA (jH (aB (aR (.int 0)) (aB (aR (.int 1)) (aB (aR (.int 2)) (aB (aC bZ (aC dF (aA 4) (aR (.int 300))) (aR (.int 10000))) aD))))) (aC bZ (aC dF (aA 4) (aR (.int 12))) (aR (.int 4))))) (jJ K A ex)) bU)
noncomputable def pD (K:Fg) (A:bF) (ex:aN->aV):bH :=
  aM (cP (aO (aC a07 (aC bZ (aA 4) (aR (.int 3))) (aR (.int 0)))) (yX [5,6] (aC cA (aA 1) (aA 3))) bU) (iD K A ex)
noncomputable def pF (K:Fg) (A:bF) (ex:aN->aV):bH :=
  aM (yX [5,6] (aC cA (aA 1) (aC bZ (aX (bR K A) ex (aB (aA 4) (aB (aR (.int 2)) aD))) (cX dY (aB (aA 1) aD))))) (pD K A ex)
noncomputable def tV (K:Fg) (A:bF) (ex:aN->aV):bH :=
  aM (bO 4 (aX (bR K A) ex (aB (aX (aZ K A) ex (aB (aA 0) (aB (aR (.int 3)) aD))) (aB (aA 3) aD)))) (pF K A ex)
noncomputable def pG (K:Fg) (A:bF) (ex:aN->aV):bH :=
  (vN (aA 2) (aA 10) (fL (aB (aC cA (aC cA (aA 2) (aA 10)) (aR (.int 0))) (aB (cX sI (aB (aC zM (aR (.int 10)) (aR (.int 6))) (aB (aC dR (aC cA (aC cA (aA 2) (aA 10)) (aR (.int 1))) (aR (.int 1))) aD))) aD))))
noncomputable def pH (K:Fg) (A:bF) (ex:aN->aV):bH :=
  (vN (aA 2) (aA 10) (fL (aB (cX sI (aB (aR (.int 9999)) (aB (aC dR (aC dR (aC cA (aC cA (aA 2) (aA 10)) (aR (.int 0))) (aR (.int 1))) (aC bZ (aC dF (aA 9) (aR (.int 4))) (aR (.int 3)))) aD))) (aB (aC cA (aC cA (aA 2) (aA 10)) (aR (.int 1))) aD))))
noncomputable def v7 (K:Fg) (A:bF) (ex:aN->aV):bH :=
  (cD (aC dR (wW (aA 2) (a0Z (aA 11)) rT) (wW (aA 2) rT (a0Z (aA 11)))))
noncomputable def oA (K:Fg) (A:bF) (ex:aN->aV):bH :=
  aM (bO 11 (aC bZ (aX (bR K A) ex (aB (aA 9) (aB (aR (.int 5)) aD))) (aC dR (aR (.int 1)) (cX dY (aB (aA 2) aD))))) (v7 K A ex)
noncomputable def oE (K:Fg) (A:bF) (ex:aN->aV):bH :=
  aM (cP (aO (aC jV (aC bZ (aA 9) (aR (.int 4))) (aR (.int 3)))) (jA (tM3 "list" eN (aA 2) (aB (fL (aB (aX (eE K A) ex (aB (aX (bR K A) ex (aB (aA 9) (aB (aR (.int 3)) aD))) aD)) (aB (aX (d8 K A) ex (aB (aX (bR K A) ex (aB (aA 9) (aB (aR (.int 4)) aD))) aD)) aD))) aD))) bU) (oA K A ex)
noncomputable def oF (K:Fg) (A:bF) (ex:aN->aV):bH :=
  aM (cP (qU (aO (aC jV (aC bZ (aA 9) (aR (.int 4))) (aR (.int 2)))) (aO (aC a07 (cX dY (aB (aA 2) aD)) (aR (.int 0))))) (aM (bO 10 (aC bZ (aX (bR K A) ex (aB (aA 9) (aB (aR (.int 2)) aD))) (cX dY (aB (aA 2) aD)))) (pH K A ex)) bU) (oE K A ex)
noncomputable def oG (K:Fg) (A:bF) (ex:aN->aV):bH :=
  aM (cP (qU (aO (aC jV (aC bZ (aA 9) (aR (.int 4))) (aR (.int 1)))) (aO (aC a07 (cX dY (aB (aA 2) aD)) (aR (.int 0))))) (aM (bO 10 (aC bZ (aX (bR K A) ex (aB (aA 9) (aB (aR (.int 1)) aD))) (cX dY (aB (aA 2) aD)))) (pG K A ex)) bU) (oF K A ex)
noncomputable def v8 (K:Fg) (A:bF) (ex:aN->aV):bH :=
  aM (bO 9 (aX (aZ K A) ex (aB (aA 0) (aB (aR (.int 4)) aD)))) (oG K A ex)
noncomputable def v9 (K:Fg) (A:bF) (ex:aN->aV):bH :=
  aM (jC (sH (aB (cX sI (aB (aR (.int 190)) (aB (cX dY (aB (aA 1) aD)) aD))) aD)) (vR 3) (tV K A ex)) (v8 K A ex)
noncomputable def tW (K:Fg) (A:bF) (ex:aN->aV):bH :=
  aM (bO 2 (jH aD)) (v9 K A ex)
noncomputable def kW (K:Fg) (A:bF):iT:=spD 12 2 fun EX=>tW K A (fun _=>EX)
noncomputable def aa0:CB:=(.cons (.set 2 (.lst .nil)) (.cons (.a3T (.a9N (.call 2 (.cons (.con (.int 190)) (.cons (.call 1 (.cons (.var 1) .nil)) .nil)))) (.nm 3) (.cons (.set 4 (.call 4 (.cons (.call 3 (.cons (.var 0) (.cons (.con (.int 3)) .nil))) (.cons (.var 3) .nil)))) (.cons (.ag3 [5,6] (.ix (.var 1) (.bin .Mod (.call 4 (.cons (.var 4) (.cons (.con (.int 2)) .nil))) (.call 1 (.cons (.var 1) .nil))))) (.cons (.ifs (.cmp .Gt (.bin .Mod (.var 4) (.con (.int 3))) (.con (.int 0))) (.cons (.ag3 [5,6] (.ix (.var 1) (.var 3))) .nil) .nil) (.cons (.ifs (.cmp .Gt (.bin .Mod (.bin .FloorDiv (.var 4) (.con (.int 3))) (.con (.int 4))) (.con (.int 0))) (.cons (.set 7 (.ix (.lst (.cons (.con (.int 0)) (.cons (.con (.int 1)) (.cons (.con (.int 2)) (.cons (.bin .Mod (.bin .FloorDiv (.var 4) (.con (.int 300))) (.con (.int 10000))) .nil))))) (.bin .Mod (.bin .FloorDiv (.var 4) (.con (.int 12))) (.con (.int 4))))) (.cons (.set 8 (.ix (.lst (.cons (.var 6) (.cons (.var 6) (.cons (.bin .Add (.con (.int 1)) (.bin .Mod (.call 4 (.cons (.var 4) (.cons (.con (.int 3)) .nil))) (.var 6))) (.cons (.bin .Sub (.var 6) (.con (.int 1))) .nil))))) (.bin .Mod (.bin .FloorDiv (.var 4) (.con (.int 48))) (.con (.int 4))))) (.cons (.ifs (.and (.cons (.cmp .Gt (.var 8) (.con (.int 0))) (.cons (.cmp .Lt (.call 1 (.cons (.var 2) .nil)) (.con (.int 190))) .nil))) (.cons (.expr (.meth .append (.var 2) (.cons (.tup (.cons (.call 5 (.cons (.con (.int 0)) (.cons (.bin .Sub (.var 5) (.var 7)) .nil))) (.cons (.var 8) .nil))) .nil))) .nil) .nil) (.cons (.ifs (.and (.cons (.cmp .Eq (.bin .Mod (.bin .FloorDiv (.var 4) (.con (.int 192))) (.con (.int 3))) (.con (.int 1))) (.cons (.cmp .Gt (.var 8) (.con (.int 0))) (.cons (.cmp .Lt (.var 8) (.var 6)) (.cons (.cmp .Lt (.call 1 (.cons (.var 2) .nil)) (.con (.int 190))) .nil))))) (.cons (.expr (.meth .append (.var 2) (.cons (.tup (.cons (.call 5 (.cons (.con (.int 0)) (.cons (.bin .Sub (.var 5) (.bin .Mod (.bin .FloorDiv (.var 4) (.con (.int 576))) (.con (.int 3)))) .nil))) (.cons (.bin .Sub (.var 6) (.var 8)) .nil))) .nil))) .nil) .nil) .nil)))) .nil) .nil))))) (.cons (.set 9 (.call 3 (.cons (.var 0) (.cons (.con (.int 4)) .nil)))) (.cons (.ifs (.and (.cons (.cmp .Eq (.bin .Mod (.var 9) (.con (.int 4))) (.con (.int 1))) (.cons (.cmp .Gt (.call 1 (.cons (.var 2) .nil)) (.con (.int 0))) .nil))) (.cons (.set 10 (.bin .Mod (.call 4 (.cons (.var 9) (.cons (.con (.int 1)) .nil))) (.call 1 (.cons (.var 2) .nil)))) (.cons (.abX (.var 2) (.var 10) (.tup (.cons (.ix (.ix (.var 2) (.var 10)) (.con (.int 0))) (.cons (.call 2 (.cons (.bin .Pow (.con (.int 10)) (.con (.int 6))) (.cons (.bin .Add (.ix (.ix (.var 2) (.var 10)) (.con (.int 1))) (.con (.int 1))) .nil))) .nil)))) .nil)) .nil) (.cons (.ifs (.and (.cons (.cmp .Eq (.bin .Mod (.var 9) (.con (.int 4))) (.con (.int 2))) (.cons (.cmp .Gt (.call 1 (.cons (.var 2) .nil)) (.con (.int 0))) .nil))) (.cons (.set 10 (.bin .Mod (.call 4 (.cons (.var 9) (.cons (.con (.int 2)) .nil))) (.call 1 (.cons (.var 2) .nil)))) (.cons (.abX (.var 2) (.var 10) (.tup (.cons (.call 2 (.cons (.con (.int 9999)) (.cons (.bin .Add (.bin .Add (.ix (.ix (.var 2) (.var 10)) (.con (.int 0))) (.con (.int 1))) (.bin .Mod (.bin .FloorDiv (.var 9) (.con (.int 4))) (.con (.int 3)))) .nil))) (.cons (.ix (.ix (.var 2) (.var 10)) (.con (.int 1))) .nil)))) .nil)) .nil) (.cons (.ifs (.cmp .Eq (.bin .Mod (.var 9) (.con (.int 4))) (.con (.int 3))) (.cons (.expr (.meth .append (.var 2) (.cons (.tup (.cons (.call 6 (.cons (.call 4 (.cons (.var 9) (.cons (.con (.int 3)) .nil))) .nil)) (.cons (.call 7 (.cons (.call 4 (.cons (.var 9) (.cons (.con (.int 4)) .nil))) .nil)) .nil))) .nil))) .nil) .nil) (.cons (.set 11 (.bin .Mod (.call 4 (.cons (.var 9) (.cons (.con (.int 5)) .nil))) (.bin .Add (.con (.int 1)) (.call 1 (.cons (.var 2) .nil))))) (.cons (.ret (.bin .Add (.sl (.var 2) (.some (.var 11)) .none) (.sl (.var 2) .none (.some (.var 11))))) .nil))))))))
noncomputable def aa1 (K:Fg) (A:bF):SI:=⟨["_law_script", "_law_stock_here", "_law_asks_here", "_law_k", "_law_more", "_law_due", "_law_amount_here", "_law_ahead", "_law_part", "_law_cell", "_law_at", "_law_turn"],[true,true,true,true,true,true,true,true,true,true,true,true],[true,true,true,true,true,true,true,true,true,true,true,true],[false,false,false,false,false,false,false,false,false,false,false,false],[("range",.bt "range"),("len",.bf .len),("min",.bf .min),("_law_cell_at",.fn (aZ K A) 2 false),("_law_mix",.fn (bR K A) 2 false),("max",.bf .max),("_law_day",.fn (eE K A) 1 false),("_law_amount",.fn (d8 K A) 1 false)],[true,true,true,true,true,true,true,true],true,false⟩
noncomputable def tX (K:Fg) (A:bF) (ex:aN->aV):bH :=
  (cP (aO (aC a8P (aA 4) (aA 2))) (bO 3 (aC dR (aA 3) (aA 5))) bU)
noncomputable def tY (K:Fg) (A:bF) (ex:aN->aV):bH :=
  (cP (aO (aC a8P (aA 6) (aA 2))) (bO 3 (aC rR (aA 3) (aA 5))) bU)
noncomputable def vA (K:Fg) (A:bF) (ex:aN->aV):bH :=
  (cD (aA 3))
noncomputable def vB (K:Fg) (A:bF) (ex:aN->aV):bH :=
  aM (jC (a6O (aA 1)) (uW [6,5]) (tY K A ex)) (vA K A ex)
noncomputable def vC (K:Fg) (A:bF) (ex:aN->aV):bH :=
  aM (jC (a6O (aA 0)) (uW [4,5]) (tX K A ex)) (vB K A ex)
noncomputable def tZ (K:Fg) (A:bF) (ex:aN->aV):bH :=
  aM (bO 3 (aR (.int 0))) (vC K A ex)
noncomputable def kY (K:Fg) (A:bF):iT:=spD 7 3 fun EX=>tZ K A (fun _=>EX)
noncomputable def aa2:CB:=(.cons (.set 3 (.con (.int 0))) (.cons (.a3T (.any (.var 0)) (.tup [4,5]) (.cons (.ifs (.cmp .GtE (.var 4) (.var 2)) (.cons (.set 3 (.bin .Add (.var 3) (.var 5))) .nil) .nil) .nil)) (.cons (.a3T (.any (.var 1)) (.tup [6,5]) (.cons (.ifs (.cmp .GtE (.var 6) (.var 2)) (.cons (.set 3 (.bin .Sub (.var 3) (.var 5))) .nil) .nil) .nil)) (.cons (.ret (.var 3)) .nil))))
noncomputable def aa3 (K:Fg) (A:bF):SI:=⟨["_law_stock_here", "_law_asks_here", "_law_day_here", "_law_total", "_law_due", "_law_amount_here", "_law_one"],[true,true,true,true,true,true,true],[true,true,true,true,true,true,true],[false,false,false,false,false,false,false],[],[],true,false⟩
noncomputable def rC (K:Fg) (A:bF) (ex:aN->aV):bH :=
  (cP (qU (aO (aC yQ (aX (kY K A) ex (aB (aA 0) (aB (aA 1) (aB (aA 3) aD)))) (aR (.int 0)))) (a0X (aO (aC a3L (aA 2) (aR .non))) (aO (aC a07 (aA 3) (aA 2))))) (bO 2 (aA 3)) bU)
noncomputable def u0 (K:Fg) (A:bF) (ex:aN->aV):bH :=
  (cD (aA 2))
noncomputable def u5 (K:Fg) (A:bF) (ex:aN->aV):bH :=
  aM (jC (a6O (aA 1)) (uW [3,4]) (rC K A ex)) (u0 K A ex)
noncomputable def qH (K:Fg) (A:bF) (ex:aN->aV):bH :=
  aM (bO 2 (aR .non)) (u5 K A ex)
noncomputable def iQ (K:Fg) (A:bF):iT:=spD 5 2 fun EX=>qH K A (fun _=>EX)
noncomputable def a7O:CB:=(.cons (.set 2 (.con .non)) (.cons (.a3T (.any (.var 1)) (.tup [3,4]) (.cons (.ifs (.and (.cons (.cmp .Lt (.call 0 (.cons (.var 0) (.cons (.var 1) (.cons (.var 3) .nil)))) (.con (.int 0))) (.cons (.or (.cons (.cmp .Is (.var 2) (.con .non)) (.cons (.cmp .Gt (.var 3) (.var 2)) .nil))) .nil))) (.cons (.set 2 (.var 3)) .nil) .nil) .nil)) (.cons (.ret (.var 2)) .nil)))
noncomputable def a7P (K:Fg) (A:bF):SI:=⟨["_law_stock_here", "_law_asks_here", "_law_found", "_law_day_here", "_law_amount_here"],[true,true,true,true,true],[true,true,true,true,true],[false,false,false,false,false],[("_law_rest",.fn (kY K A) 3 false)],[true],true,false⟩
noncomputable def fX (K:Fg) (A:bF) (ex:aN->aV):bH :=
  (bO 5 (fL (aB (aA 7) (aB (aA 8) aD))))
noncomputable def fY (K:Fg) (A:bF) (ex:aN->aV):bH :=
  aM (vN (aA 4) (aA 8) (aC dR (aC cA (aA 4) (aA 8)) (aA 9))) (fX K A ex)
noncomputable def fZ (K:Fg) (A:bF) (ex:aN->aV):bH :=
  aM (vN (aA 3) (aA 7) (aC dR (aC cA (aA 3) (aA 7)) (aA 9))) (fY K A ex)
noncomputable def gA (K:Fg) (A:bF) (ex:aN->aV):bH :=
  aM (cP (aO (aC yQ (aC cA (aC cA (aA 0) (aA 8)) (aR (.int 0))) (aC cA (aC cA (aA 1) (aA 7)) (aR (.int 0))))) (cD (aR (.bl false))) bU) (fZ K A ex)
noncomputable def gB (K:Fg) (A:bF) (ex:aN->aV):bH :=
  aM (cP (a0X (rO (aO (jT abR yQ (aR (.int 0)) (aA 7) (cX dY (aB (aA 1) aD))))) (a0X (rO (aO (jT abR yQ (aR (.int 0)) (aA 8) (cX dY (aB (aA 0) aD))))) (a0X (aO (aC yQ (aA 9) (aR (.int 1)))) (aO (aC abR (fL (aB (aA 7) (aB (aA 8) aD))) (aA 5)))))) (cD (aR (.bl false))) bU) (gA K A ex)
noncomputable def gC (K:Fg) (A:bF) (ex:aN->aV):bH :=
  aM (yX [7,8,9] (aA 6)) (gB K A ex)
noncomputable def eF (K:Fg) (A:bF) (ex:aN->aV):bH :=
  aM (cP (a0X (rO (aO (cX (bW K) (aB (aA 6) (aB (aR (.ty "tuple")) aD))))) (aO (aC ahU (abE (nZ (aA 6)) yV (aX (iK K A) NoX (aB (aA 0) aD))) (jH (aB (aR (.bl true)) (aB (aR (.bl true)) (aB (aR (.bl true)) aD))))))) (cD (aR (.bl false))) bU) (gC K A ex)
noncomputable def jK (K:Fg) (A:bF) (ex:aN->aV):bH :=
  (a9A 8 (cD (aC jV (abE (sH (aB (cX dY (aB (aA 0) aD)) aD)) (aO (aC a07 (aC cA (aA 5) (aA 0)) (aC cA (aC cA (aA 1) (aA 0)) (aR (.int 1))))) (aA 0)) (jH aD))))
noncomputable def jL (K:Fg) (A:bF) (ex:aN->aV):bH :=
  aM (a9A 9 (cP (aO (aC ahU (aA 3) (mZ 2 (nZ (aA 1)) yV (aA 1)))) (cD (aR (.bl false))) bU)) (jK K A ex)
noncomputable def jM (K:Fg) (A:bF) (ex:aN->aV):bH :=
  aM (jC (a6O (aA 2)) (vR 6) (eF K A ex)) (jL K A ex)
noncomputable def jN (K:Fg) (A:bF) (ex:aN->aV):bH :=
  aM (bO 5 (fL (aB (a4N (aR (.int 1))) (aB (a4N (aR (.int 1))) aD)))) (jM K A ex)
noncomputable def jO (K:Fg) (A:bF) (ex:aN->aV):bH :=
  aM (bO 4 (aC gU (jH (aB (aR (.int 0)) aD)) (cX dY (aB (aA 0) aD)))) (jN K A ex)
noncomputable def gF (K:Fg) (A:bF) (ex:aN->aV):bH :=
  aM (bO 3 (aC gU (jH (aB (aR (.int 0)) aD)) (cX dY (aB (aA 1) aD)))) (jO K A ex)
noncomputable def dH (K:Fg) (A:bF):iT:=spD 10 3 fun EX=>gF K A (fun _=>EX)
noncomputable def xY:CB:=(.cons (.set 3 (.bin .Mult (.lst (.cons (.con (.int 0)) .nil)) (.call 0 (.cons (.var 1) .nil)))) (.cons (.set 4 (.bin .Mult (.lst (.cons (.con (.int 0)) .nil)) (.call 0 (.cons (.var 0) .nil)))) (.cons (.set 5 (.tup (.cons (.neg (.con (.int 1))) (.cons (.neg (.con (.int 1))) .nil)))) (.cons (.a3T (.any (.var 2)) (.nm 6) (.cons (.ifs (.or (.cons (.not (.val (.call 2 (.cons (.var 6) (.cons (.glo 1) .nil))))) (.cons (.cmp .NotEq (.comp [false,false,false,false,false,false,false,false,false,false] [false,false,false,true,false] (.any (.var 6)) .none (.call 3 (.cons (.var 0) .nil))) (.lst (.cons (.con (.bl true)) (.cons (.con (.bl true)) (.cons (.con (.bl true)) .nil))))) .nil))) (.cons (.ret (.con (.bl false))) .nil) .nil) (.cons (.ag3 [7,8,9] (.var 6)) (.cons (.ifs (.or (.cons (.not (.chain .LtE .Lt (.con (.int 0)) (.var 7) (.call 0 (.cons (.var 1) .nil)))) (.cons (.not (.chain .LtE .Lt (.con (.int 0)) (.var 8) (.call 0 (.cons (.var 0) .nil)))) (.cons (.cmp .Lt (.var 9) (.con (.int 1))) (.cons (.cmp .LtE (.tup (.cons (.var 7) (.cons (.var 8) .nil))) (.var 5)) .nil))))) (.cons (.ret (.con (.bl false))) .nil) .nil) (.cons (.ifs (.cmp .Lt (.ix (.ix (.var 0) (.var 8)) (.con (.int 0))) (.ix (.ix (.var 1) (.var 7)) (.con (.int 0)))) (.cons (.ret (.con (.bl false))) .nil) .nil) (.cons (.abX (.var 3) (.var 7) (.bin .Add (.ix (.var 3) (.var 7)) (.var 9))) (.cons (.abX (.var 4) (.var 8) (.bin .Add (.ix (.var 4) (.var 8)) (.var 9))) (.cons (.set 5 (.tup (.cons (.var 7) (.cons (.var 8) .nil)))) .nil)))))))) (.cons (.hid 9 "-" (.ifs (.cmp .NotEq (.var 3) (.zQ 2 [false,false,false,false,false,false,false,false,false,false] [false,false,false,false,false] (.any (.var 1)) .none (.var 1))) (.cons (.ret (.con (.bl false))) .nil) .nil)) (.cons (.hid 8 "-" (.ret (.cmp .Eq (.comp [true,false,false,false,true,false,false,false,false,false] [false,false,false,false,false] (.a9N (.call 0 (.cons (.var 0) .nil))) (.some (.cmp .Gt (.ix (.var 5) (.var 0)) (.ix (.ix (.var 1) (.var 0)) (.con (.int 1))))) (.var 0)) (.lst .nil)))) .nil))))))
noncomputable def xZ (K:Fg) (A:bF):SI:=⟨["_law_stock_here", "_law_asks_here", "_law_rows", "_law_had", "_law_gone", "_law_last", "_law_row", "_law_ask", "_law_place", "_law_amount_here"],[true,true,true,true,true,true,true,true,true,true],[false,true,true,true,false,true,true,true,true,true],[true,false,false,false,true,false,false,false,false,false],[("len",.bf .len),("tuple",.bt "tuple"),("isinstance",.bf .isi),("_law_whole",.fn (iK K A) 1 false),("range",.bt "range")],[true,true,true,false,true],true,false⟩
noncomputable def u6 (K:Fg) (A:bF) (ex:aN->aV):bH :=
  (cD (rP (aC jV (aX (jY K A) ex (aB (aA 0) (aB (aA 1) aD))) (aA 2)) (aC jV (aX (fH K A) ex (aB (aA 0) (aB (aA 1) aD))) (aC a3L (aA 2) (aR .non)))))
noncomputable def gG (K:Fg) (A:bF):iT:=spD 3 3 fun EX=>u6 K A (fun _=>EX)
noncomputable def aa4:CB:=(.cons (.ret (.abT (.cons (.cmp .Eq (.call 0 (.cons (.var 0) (.cons (.var 1) .nil))) (.var 2)) (.cons (.cmp .Eq (.call 1 (.cons (.var 0) (.cons (.var 1) .nil))) (.cmp .Is (.var 2) (.con .non))) .nil)))) .nil)
noncomputable def aa5 (K:Fg) (A:bF):SI:=⟨["_law_stock_here", "_law_asks_here", "_law_due"],[true,true,true],[true,true,true],[false,false,false],[("short_day",.fn (jY K A) 2 false),("keepable",.fn (fH K A) 2 false)],[true,true],true,false⟩
noncomputable def a2O (K:Fg) (A:bF) (ex:aN->aV):bH :=
  (cD (rP (aC jV (aA 7) (aA 6)) (aC jV (aA 5) (aC dR (aA 6) (jH (aB (fL (aB (aR (.int 0)) (aB (aR (.int 0)) (aB (aR (.int 1)) aD)))) aD))))))
noncomputable def aa6 (K:Fg) (A:bF) (ex:aN->aV):bH :=
  aM (jA (afN "list" uL (aC cA (aA 4) (aR (.int 1))))) (a2O K A ex)
noncomputable def aa7 (K:Fg) (A:bF) (ex:aN->aV):bH :=
  aM (jA (afN "list" uL (aC cA (aA 4) (aR (.int 0))))) (aa6 K A ex)
noncomputable def aa8 (K:Fg) (A:bF) (ex:aN->aV):bH :=
  aM (bO 7 (aX (lJ K A) ex (aB (aC cA (aA 4) (aR (.int 0))) (aB (aC cA (aA 4) (aR (.int 1))) aD)))) (aa7 K A ex)
noncomputable def aa9 (K:Fg) (A:bF) (ex:aN->aV):bH :=
  aM (jA (tM3 "list" eN (aA 5) (aB (fL (aB (aR (.int 0)) (aB (aR (.int 0)) (aB (aR (.int 1)) aD)))) aD))) (aa8 K A ex)
noncomputable def aaA (K:Fg) (A:bF) (ex:aN->aV):bH :=
  aM (bO 6 (cX vP (aB (aA 5) aD))) (aa9 K A ex)
noncomputable def aeD (K:Fg) (A:bF) (ex:aN->aV):bH :=
  aM (cP (a0X (rO (aO (cX (bW K) (aB (aA 5) (aB (aR (.ty "list")) aD))))) (rO (aO (aX (dH K A) ex (aB (aA 1) (aB (aA 2) (aB (aA 5) aD))))))) (cD (aR (.bl false))) bU) (aaA K A ex)
noncomputable def a0I (K:Fg) (A:bF) (ex:aN->aV):bH :=
  aM (cP (aO (aC a0Y (aA 3) (aR .non))) (cD (rP (aC a3L (aA 5) (aR .non)) (aC a3L (aX (lJ K A) ex (aB (aC cA (aA 4) (aR (.int 0))) (aB (aC cA (aA 4) (aR (.int 1))) aD))) (aR .non)))) bU) (aeD K A ex)
noncomputable def a7Q (K:Fg) (A:bF) (ex:aN->aV):bH :=
  aM (cP (a0X (aO (aC ad7 (aA 4) (fL (aB (aA 1) (aB (aA 2) aD))))) (rO (aO (aX (gG K A) ex (aB (aC cA (aA 4) (aR (.int 0))) (aB (aC cA (aA 4) (aR (.int 1))) (aB (aA 3) aD))))))) (cD (aR (.bl false))) bU) (a0I K A ex)
noncomputable def a7R (K:Fg) (A:bF) (ex:aN->aV):bH :=
  aM (bO 5 (aX (lJ K A) ex (aB (aC cA (aA 4) (aR (.int 0))) (aB (aC cA (aA 4) (aR (.int 1))) aD)))) (a7Q K A ex)
noncomputable def aeE (K:Fg) (A:bF) (ex:aN->aV):bH :=
  aM (cP (qU (aO (aC jV (aC bZ (aX (aZ K A) ex (aB (aA 0) (aB (aR (.int 6)) aD))) (aR (.int 2))) (aR (.int 0)))) (rO (aO (aX (gG K A) ex (aB (aC cA (aA 4) (aR (.int 0))) (aB (aC cA (aA 4) (aR (.int 1))) (aB (aA 3) aD))))))) (cD (aR (.bl false))) bU) (a7R K A ex)
noncomputable def aeF (K:Fg) (A:bF) (ex:aN->aV):bH :=
  aM (bO 4 (fL (aB (cX vP (aB (aA 1) aD)) (aB (cX vP (aB (aA 2) aD)) aD)))) (aeE K A ex)
noncomputable def aeG (K:Fg) (A:bF) (ex:aN->aV):bH :=
  aM (bO 3 (aX (iQ K A) ex (aB (aA 1) (aB (aA 2) aD)))) (aeF K A ex)
noncomputable def aeH (K:Fg) (A:bF) (ex:aN->aV):bH :=
  aM (bO 2 (aX (kW K A) ex (aB (aA 0) (aB (aA 1) aD)))) (aeG K A ex)
noncomputable def akZ (K:Fg) (A:bF) (ex:aN->aV):bH :=
  aM (bO 1 (aX (iM K A) ex (aB (aA 0) aD))) (aeH K A ex)
noncomputable def a7S (K:Fg) (A:bF):iT:=spD 8 1 fun EX=>akZ K A (fun _=>EX)
noncomputable def aaB:CB:=(.cons (.set 1 (.call 0 (.cons (.var 0) .nil))) (.cons (.set 2 (.call 1 (.cons (.var 0) (.cons (.var 1) .nil)))) (.cons (.set 3 (.call 2 (.cons (.var 1) (.cons (.var 2) .nil)))) (.cons (.set 4 (.tup (.cons (.call 3 (.cons (.var 1) .nil)) (.cons (.call 3 (.cons (.var 2) .nil)) .nil)))) (.cons (.ifs (.and (.cons (.cmp .Eq (.bin .Mod (.call 4 (.cons (.var 0) (.cons (.con (.int 6)) .nil))) (.con (.int 2))) (.con (.int 0))) (.cons (.not (.val (.call 5 (.cons (.ix (.var 4) (.con (.int 0))) (.cons (.ix (.var 4) (.con (.int 1))) (.cons (.var 3) .nil)))))) .nil))) (.cons (.ret (.con (.bl false))) .nil) .nil) (.cons (.set 5 (.call 6 (.cons (.ix (.var 4) (.con (.int 0))) (.cons (.ix (.var 4) (.con (.int 1))) .nil)))) (.cons (.ifs (.or (.cons (.eqd true (.var 4) (.tup (.cons (.var 1) (.cons (.var 2) .nil)))) (.cons (.not (.val (.call 5 (.cons (.ix (.var 4) (.con (.int 0))) (.cons (.ix (.var 4) (.con (.int 1))) (.cons (.var 3) .nil)))))) .nil))) (.cons (.ret (.con (.bl false))) .nil) .nil) (.cons (.ifs (.cmp .IsNot (.var 3) (.con .non)) (.cons (.ret (.abT (.cons (.cmp .Is (.var 5) (.con .non)) (.cons (.cmp .Is (.call 6 (.cons (.ix (.var 4) (.con (.int 0))) (.cons (.ix (.var 4) (.con (.int 1))) .nil))) (.con .non)) .nil)))) .nil) .nil) (.cons (.ifs (.or (.cons (.not (.val (.call 7 (.cons (.var 5) (.cons (.glo 3) .nil))))) (.cons (.not (.val (.call 8 (.cons (.var 1) (.cons (.var 2) (.cons (.var 5) .nil)))))) .nil))) (.cons (.ret (.con (.bl false))) .nil) .nil) (.cons (.set 6 (.call 3 (.cons (.var 5) .nil))) (.cons (.expr (.meth .append (.var 5) (.cons (.tup (.cons (.con (.int 0)) (.cons (.con (.int 0)) (.cons (.con (.int 1)) .nil)))) .nil))) (.cons (.set 7 (.call 6 (.cons (.ix (.var 4) (.con (.int 0))) (.cons (.ix (.var 4) (.con (.int 1))) .nil)))) (.cons (.expr (.meth .clear (.ix (.var 4) (.con (.int 0))) .nil)) (.cons (.expr (.meth .clear (.ix (.var 4) (.con (.int 1))) .nil)) (.cons (.ret (.abT (.cons (.cmp .Eq (.var 7) (.var 6)) (.cons (.cmp .Eq (.var 5) (.bin .Add (.var 6) (.lst (.cons (.tup (.cons (.con (.int 0)) (.cons (.con (.int 0)) (.cons (.con (.int 1)) .nil)))) .nil)))) .nil)))) .nil)))))))))))))))
noncomputable def aBY (K:Fg) (A:bF):SI:=⟨["_law_script", "_law_stock_here", "_law_asks_here", "_law_due", "_law_handed", "_law_rows", "_law_kept", "_law_again"],[true,true,true,true,true,true,true,true],[true,true,true,true,true,true,true,true],[false,false,false,false,false,false,false,false],[("_law_stock",.fn (iM K A) 1 false),("_law_asks",.fn (kW K A) 2 false),("_law_short",.fn (iQ K A) 2 false),("list",.bt "list"),("_law_cell_at",.fn (aZ K A) 2 false),("_law_told",.fn (gG K A) 3 false),("shares",.fn (lJ K A) 2 false),("isinstance",.bf .isi),("_law_rows_right",.fn (dH K A) 3 false)],[true,true,true,true,true,true,true,true,true],true,false⟩
structure Txt (K:Fg) (mg:Str->Option Value) (A:bF):Prop where
 tL:A.p8.code = .ref A.tL
 a2P:wK K "rest" "rest" akX A.ac2 A.a2F
 a7T:Binds K A.a2F ["stock", "asks", "day"] []
 a7U:mg "rest" = some (.ref A.ac2)
 eG:wK K "short_days" "short_days" xG A.pX A.fO
 gH:Binds K A.fO ["stock", "asks"] []
 gJ:mg "short_days" = some (.ref A.pX)
 iG:wK K "keepable" "keepable" a2C A.vX A.lW
 m9:Binds K A.lW ["stock", "asks"] []
 mD:mg "keepable" = some (.ref A.vX)
 j4:wK K "short_day" "short_day" zT A.tE A.iV
 nG:Binds K A.iV ["stock", "asks"] []
 nH:mg "short_day" = some (.ref A.tE)
 yC:wK K "given" "given" aeC A.a7F A.xM
 a0J:Binds K A.xM ["stock", "left", "day", "wanted"] []
 a0K:mg "given" = some (.ref A.a7F)
 pI:wK K "shares" "shares" cT A.a2G A.p8
 yD:Binds K A.p8 ["stock", "asks"] []
 yE:mg "shares" = some (.ref A.a2G)
 cN:wK K "_law_cell_at" "_law_cell_at" tD A.lX A.dZ
 d9:Binds K A.dZ ["_law_script", "_law_k"] []
 dB:mg "_law_cell_at" = some (.ref A.lX)
 gK:wK K "_law_whole" "_law_whole" xH A.pY A.fP
 kZ:Binds K A.fP ["_law_found"] []
 lA:mg "_law_whole" = some (.ref A.pY)
 iH:wK K "_law_mix" "_law_mix" a2D A.vY A.lY
 mF:Binds K A.lY ["_law_number", "_law_k"] []
 mH:mg "_law_mix" = some (.ref A.vY)
 iI:wK K "_law_day" "_law_day" a2E A.vZ A.lZ
 mJ:Binds K A.lZ ["_law_cell"] []
 mK:mg "_law_day" = some (.ref A.vZ)
 dO:wK K "_law_amount" "_law_amount" uZ A.o8 A.eO
 eV:Binds K A.eO ["_law_cell"] []
 eX:mg "_law_amount" = some (.ref A.o8)
 gM:wK K "_law_stock" "_law_stock" xJ A.pZ A.fQ
 lB:Binds K A.fQ ["_law_script"] []
 lC:mg "_law_stock" = some (.ref A.pZ)
 j5:wK K "_law_asks" "_law_asks" zU A.tG A.iW
 nJ:Binds K A.iW ["_law_script", "_law_stock_here"] []
 nM:mg "_law_asks" = some (.ref A.tG)
 j6:wK K "_law_rest" "_law_rest" zV A.tH A.iY
 nO:Binds K A.iY ["_law_stock_here", "_law_asks_here", "_law_day_here"] []
 nP:mg "_law_rest" = some (.ref A.tH)
 gO:wK K "_law_short" "_law_short" xK A.qC A.fU
 lD:Binds K A.fU ["_law_stock_here", "_law_asks_here"] []
 lE:mg "_law_short" = some (.ref A.qC)
 cV:wK K "_law_rows_right" "_law_rows_right" nC A.fV A.cU
 dU:Binds K A.cU ["_law_stock_here", "_law_asks_here", "_law_rows"] []
 dW:mg "_law_rows_right" = some (.ref A.fV)
 j7:wK K "_law_told" "_law_told" zW A.tK A.iZ
 nQ:Binds K A.iZ ["_law_stock_here", "_law_asks_here", "_law_due"] []
 nR:mg "_law_told" = some (.ref A.tK)
 arL:wK K "law" "law" a9V A.zX A.akY
 aBZ:Binds K A.akY ["_law_script"] []
 aC0:mg "law" = some (.ref A.zX)
 al0:mg "bool" = none
 a00:mg "enumerate" = none
 arM:mg "int" = none
 lF:mg "isinstance" = none
 a5G:mg "len" = none
 al1:mg "list" = none
 aeI:mg "max" = none
 aeJ:mg "min" = none
 yF:mg "range" = none
 a2Q:mg "sorted" = none
 arN:mg "sum" = none
 aeK:mg "tuple" = none
end Law
namespace Law
open PySem PySem.Spec PyProof.Rows L2 L4 L5 L6
local macro_rules | `(tactic| walk_at "wp")=>`(tactic| first | (simp (maxSteps:=2000000) (implicitDefEqProofs:=false) (disch:=first | rfl | decide | assumption | omega) only [L5.aBB,L5.awB,L5.awC,L5.aBC,L5.aBD,L5.aBE,L5.x_c,L5.awD,L5.awE,L5.aFK,L5.awF,L5.ap2,L5.aBF,L5.aFL,L5.aBG,L5.awG,L5.awH,L5.aBH,L5.aBI,L5.aBJ,L5.awI,L5.aBK,L5.aBL,L5.x_call,L5.aFM,L5.x_m,L5.aFN,L5.akF,L5.awJ,L5.ap3,L5.aw5,L5.ap1,L5.akG,L5.aBM,L5.awM,L5.awN,L5.ap8,L5.awO,L5.awP,L5.x_lt,L5.aFO,L5.x_ge,L5.aFP,L5.ap4,L5.ap5,L5.ae7,L5.ag7,L5.dI,L5.ap6,L5.ap7,L5.aw6,L5.aw7,L5.aw8,L5.aw9,L5.awA,L5.a9R,L5.a7B,L5.a3U,L5.abZ,L5.ac0,L5.a9S,L5.akK,L5.ag8,L5.ac1,L5.aBP,L5.aBQ,L5.ag9,L6.apA,L6.aBR,L6.awS,L6.akM,L6.apB,L6.awT,L6.awV,L6.apC,L6.sY,L6.apD,L6.aBT,L6.aBU,L6.awX,L6.aBV,L6.aBW,L6.apE,L6.apF,L6.awQ,L13.awY,L13.apH,L11.akR,L7.aBX,reduceIte,reduceCtorEq];try dsimp only [L5.akB,L5.akC,L5.akD,L5.akE,L6.ae9]) | dsimp only [L5.akB,L5.akC,L5.akD,L5.akE,L6.ae9])
local macro_rules | `(tactic| exists $ls,*)=>`(tactic| (simp (implicitDefEqProofs:=false) only [$[$ls:term],*];repeat (first | (walk_at "wp") | (simp (implicitDefEqProofs:=false) only [$[$ls:term],*]))))
local macro_rules | `(tactic| walk_at "wr")=>`(tactic| repeat (walk_at "wp"))
variable {ns L gs:List Int}{p q:Addr}{xs ys:List D}{G' G2:Gp}{F:cH}{ex:aN->aV}{as qs:List (Int×Int)}{ra rs rk r7 r8 r5:Option D}{l:Int}
section
variable {K:Fg} {A:bF} {G:Gp} {R:dX} {EX:aV} {mg:Str->Option Value}
noncomputable def cellAt (ns:List Int) (k:Nat):Int:=if k < ns.length then ns.getD k 0 else if ns=[] then 0 else
 let m:=(ns.getD (k % ns.length) 0 * 48271+k * 104729) % 2147483647
 (m * m+48271 * k) % 2147483629
theorem wB {a:Addr} (hG:G a=some (.rol (ns.map D.int))) {k:Nat} (hk:k < 1000) (h:R (.int (cellAt ns k)) G):aZ K A [.ref a,.int (k:Int)] G R EX:=by
 refine ⟨rfl,?_⟩;replace h:=bQ.here h;show m6 K A _ _ [some (.ref a),some (.int k),none] G;exists m6,cB (sX hG);by_cases c:k < ns.length
 ·rw [if_pos (decide_eq_true (by omega))];have e:rJ (ns.map D.int) (k:Int)=some (.int (ns.getD k 0)):=by rw [iC];simp [c,iz]
  rw [jD (sX hG) e];rw [show cellAt ns k=ns.getD k 0 by unfold cellAt;rw [if_pos c]] at h;exact h
 ·rw [if_neg (by simp;omega)];exists pC,cB (sX hG);by_cases hn:ns=[]
  ·subst hn;rw [show cellAt [] k=0 by unfold cellAt;simp] at h;exact h
  ·have h0:0 < (ns.length:Int):=by cases ns with
    | nil=>exact absurd rfl hn
    | cons n r=>simp
   have e0:((ns.length:Int) == 0)=false:=by simp;exact hn
   rw [e0];exists pB,cB (sX hG);have hm:k % ns.length < ns.length:=Nat.mod_lt _ (by omega)
   have e2:rJ (ns.map D.int) ((k:Int) % (ns.length:Int))=some (.int (ns.getD (k % ns.length) 0)):=by
    rw [← Int.natCast_emod,iC];simp [hm,iz]
   rw [jD (sX hG) e2];exists pA
   have ec:cellAt ns k=((ns.getD (k % ns.length) 0 * 48271+(k:Int) * 104729) % 2147483647 * ((ns.getD (k % ns.length) 0 * 48271+(k:Int) * 104729) % 2147483647)+48271 * (k:Int)) % 2147483629:=by
    unfold cellAt;rw [if_neg c,if_neg hn]
   rw [← ec];exact h
noncomputable def u9 (n k:Int):Int:=((n * 48271+k * 104729+11) % 2147483647 * ((n * 48271+k * 104729+11) % 2147483647)+48271 * k+(n * 48271+k * 104729+11) % 2147483647) % 2147483629
theorem vD {n k:Int} (h:R (.int (u9 n k)) G):bR K A [.int n,.int k] G R EX:=by
 refine ⟨rfl,?_⟩;replace h:=bQ.here h;show w6 K A _ _ [some (.int n),some (.int k),none] G;exists w6,xW;exact h
theorem apK {i:Int} (h:R (.bl true) G):iK K A [.int i] G R EX:=by
 refine ⟨rfl,?_⟩;show qF K A _ _ [some (.int i)] G;exists qF;exact bQ.here h
def HS (G:Gp) (p:Addr) (xs:List D) (G':Gp):Prop:=G' p=some (.lst xs)/\∀ q u,q≠p->G q=some u->G' q=some u
theorem HS.le (h:HS G p xs G'):Le (aG G p (.lst xs)) G':=fun q u e=>by
 by_cases c:q=p
 ·subst c;rw [aJ] at e;exact e ▸ h.1
 ·rw [bJ c] at e;exact h.2 q u c e
theorem HS.new {o:GO} (h:HS G p xs G') (hq:G' q=none):HS G p xs (aG G' q o):=⟨bA h.1 hq,fun r u n e=>bA (h.2 r u n e) hq⟩
theorem HS.trans (h:HS G p xs G') (h2:HS G' p ys G2):HS G p ys G2:=⟨h2.1,fun r u n e=>h2.2 r u n (h.2 r u n e)⟩
theorem HS.put (h:G p=some (.lst xs)):HS G p ys (aG G p (.lst ys)):=⟨aJ,fun r u n e=>by rw [bJ n];exact e⟩
theorem HS.more (h:HS G p xs G') (l:Le G' G2):HS G p xs G2:=⟨l _ _ h.1,fun r u n e=>l _ _ (h.2 r u n e)⟩
theorem HS.leG (h:HS G p xs G') (hp:G p=none):Le G G':=fun r u e=>h.2 r u (fun z=>by subst z;rw [hp] at e;cases e) e
theorem HS.mk0:HS G p xs (aG G p (.lst xs)):=⟨aJ,fun r u n e=>by rw [bJ n];exact e⟩
theorem HS.snd (h:HS G p xs G'):HS G p ys (aG G' p (.lst ys)):=h.trans (.put h.1)
theorem al2 {c:Int} (h:∀ i G',Le G G'->R (.int i) G'):eE K A [.int c] G R EX:=by
 refine ⟨rfl,?_⟩;have h':∀ i G',Le G G'->bQ R (.int i) G':=fun i G' l=>bQ.here (h i G' l);show wA K A _ _ [some (.int c)] G;exists wA;by_cases e:(c % 4 == 0)=true
 ·rw [e];walk_at "wr";intro p hp;refine a7D rfl (by decide) fun d hd=>?_;simp at hd;rcases hd with rfl | rfl | rfl | rfl <;> exact h' _ _ (.new hp)
 ·rw [Bool.not_eq_true] at e;rw [e];exists xX;exact h' _ _ (.refl _)
theorem aaC {c:Int} (h:∀ i G',Le G G'->1<=i->R (.int i) G'):d8 K A [.int c] G R EX:=by
 refine ⟨rfl,?_⟩;have h':∀ i G',Le G G'->1<=i->bQ R (.int i) G':=fun i G' l k=>bQ.here (h i G' l k);show o9 K A _ _ [some (.int c)] G;exists o9;by_cases e:(c % 4 == 0)=true
 ·rw [e];walk_at "wr";intro p hp;refine a7D rfl (by decide) fun d hd=>?_;simp at hd;rcases hd with rfl | rfl | rfl | rfl <;> exact h' _ _ (.new hp) (by decide)
 ·rw [Bool.not_eq_true] at e;rw [e];exists qZ;by_cases e2:(c % 4 == 1)=true
  ·rw [e2];walk_at "wr";exact h' _ _ (.refl _) (by omega)
  ·rw [Bool.not_eq_true] at e2;rw [e2];exists qY;exact h' _ _ (.refl _) (by omega)
noncomputable abbrev cG (q:Int×Int):D := .tup [.int q.1,.int q.2]
def Pos (qs:List (Int×Int)):Prop:=∀ q∈qs,1<=q.2
theorem Pos.app {xs ys:List (Int×Int)} (a:Pos xs) (b:Pos ys):Pos (xs++ys):=fun q h=>(qe.mp h).elim (a q) (b q)
theorem Pos.one {q:Int×Int} (a:1<=q.2):Pos [q]:=fun r h=>by simp at h;subst h;exact a
theorem Pos.nil:Pos []:=fun q h=>by cases h
theorem apL {a:Addr} (hG:G a=some (.rol (ns.map D.int))) (h:∀ p qs G',Le G G'->G p=none->G' p=some (.lst (qs.map cG))->Pos qs->qs.length<=24->R (.ref p) G'):iM K A [.ref a] G R EX:=by
 have big:10000 < sizeLine:=by decide
 refine ⟨rfl,?_⟩;have h':∀ p qs G',Le G G'->G p=none->G' p=some (.lst (qs.map cG))->Pos qs->qs.length<=24->bQ R (.ref p) G':=fun p qs G' l a b c d=>bQ.here (h p qs G' l a b c d);clear h;show qG K A _ _ [some (.ref a),none,none,none,none,none,none] G;exists qG;refine wB (k:=0) hG (by omega) ?_;walk_at "wr";refine al2 fun b G1 l1=>?_;have hG1:=l1 _ _ hG;exists tU;refine wB (k:=1) hG1 (by omega) ?_;exists tR;refine wB (k:=1) hG1 (by omega) ?_;walk_at "wr"
 have key:∀ m:Int,0<=m->m<=24->m8 K A (fun x=>gW EX) { nx:=fun _=>bQ R .non,rt:=bQ R,bk:=fun _ _=>False,ct:=fun _ _=>False } [some (.ref a),some (.int b),some (.int m),none,none,none,none] G1:=fun m m0 m1=>by
  exists m8;intro p hp
  have fin:∀ (qs:List (Int×Int)) (G':Gp),HS G1 p (qs.map cG) G'->Pos qs->qs.length<=24->bQ R (.ref p) G':=fun qs G' s o l=>h' p qs G' (l1.trans (s.leG hp)) (by
   cases e:G p with
   | none=>rfl
   | some u=>rw [l1 _ _ e] at hp;cases hp) s.1 o l
  exists tQ;refine a9T (fun k ρ G'=>∃ r4 r5 r6 qs,ρ=[some (.ref a),some (.int b),some (.int m),some (.ref p),r4,r5,r6]/\HS G1 p (qs.map cG) G'/\Pos qs/\qs.length=k) ⟨_,_,_,[],rfl,.mk0,.nil,rfl⟩ (fun k ρ G' hk h=>?_) fun ρ G' h=>?_
  ·obtain ⟨_,_,_,qs,rfl,s,o,ql⟩:=h;have hG2:G' a=_:=s.leG hp _ _ hG1;exists rB;refine wB (k:=2) hG2 (by omega) ?_;walk_at "wr";refine vD ?_;exists nF,nD
   have app:∀ (u v:Int) (G2:Gp),HS G1 p (qs.map cG) G2->fW K A (fun x=>gW EX) { nx:=fun ρ G'=>∃ r4 r5 r6 qs,ρ=[some (.ref a),some (.int b),some (.int m),some (.ref p),r4,r5,r6]/\HS G1 p (qs.map cG) G'/\Pos qs/\qs.length=k+1,rt:=bQ R,bk:=fun ρ G'=>m7 K A (fun x=>gW EX) { nx:=fun x=>bQ R D.non,rt:=bQ R } ρ G',ct:=fun ρ G'=>∃ r4 r5 r6 qs,ρ=[some (.ref a),some (.int b),some (.int m),some (.ref p),r4,r5,r6]/\HS G1 p (qs.map cG) G'/\Pos qs/\qs.length=k+1 } [some (.ref a),some (.int b),some (.int m),some (.ref p),some (.int k),some (.int v),some (.int u)] G2:=fun u v G2 s2=>by
    exists fW;rw [jX,aF s2.1];refine ⟨rfl,?_⟩;walk_at "wr";refine vD ?_;walk_at "wr";refine aaC fun i G3 l3 i1=>?_;walk_at "wr";have s3:=s2.more l3;rw [p7 s3.1 (by rw [bx];omega)];refine ⟨_,_,_,qs++[(u,i)],rfl,?_,o.app (.one i1),by simp [ql]⟩;rw [iy];exact s3.snd
   refine c7 (fun _=>?_) fun _=>app _ _ _ s;refine al2 fun i G3 l3=>?_;exact app _ _ _ (s.more l3)
  ·obtain ⟨_,_,_,qs,rfl,s,o,ql⟩:=h;exists m7;exact fin qs G' s o (by omega)
 exact c7 (fun _=>key _ (by omega) (by omega)) fun _=>key _ (by omega) (by omega)
theorem ax4 {m u v w:Int} (hp:G p=some (.lst (as.map cG))) (hl:as.length < 1000) (o:Pos as)
  (h:∀ G2 as2,HS G p (as2.map cG) G2->Pos as2->as2.length<=as.length+1->F.nx [ra,rs,some (.ref p),rk,some (.int m),some (.int u),some (.int v),r7,some (.int w),none,none,none] G2):cY K A ex F [ra,rs,some (.ref p),rk,some (.int m),some (.int u),some (.int v),r7,some (.int w),none,none,none] G:=by
 have big:10000 < sizeLine:=by decide
 have no:=h G as ⟨hp,fun q u n e=>e⟩ o (by omega);exists cY,cB (aF hp);refine c7 (fun c1=>?_) fun _=>no;refine c7 (fun c2=>?_) fun _=>no;refine c7 (fun c3=>?_) fun _=>no;refine c7 (fun c4=>?_) fun _=>no;rw [jX,aF hp];refine ⟨rfl,?_⟩;rw [p7 hp (by rw [bx];omega)];refine h _ (as++[(if 0 < u - m / 576 % 3 then u - m / 576 % 3 else 0,v - w)]) ?_ (o.app (.one (by simp at c3;show 1<=v - w;omega))) (by simp);rw [iy];exact .put hp
theorem ax5 {m u v w z:Int} (hp:G p=some (.lst (as.map cG))) (hl:as.length < 900) (o:Pos as)
  (h:∀ G2 as2,HS G p (as2.map cG) G2->Pos as2->as2.length<=as.length+2->F.nx [ra,rs,some (.ref p),rk,some (.int m),some (.int u),some (.int v),some (.int z),some (.int w),none,none,none] G2):eH K A ex F [ra,rs,some (.ref p),rk,some (.int m),some (.int u),some (.int v),some (.int z),some (.int w),none,none,none] G:=by
 have big:10000 < sizeLine:=by decide
 have nx:∀ G2 as2,HS G p (as2.map cG) G2->Pos as2->as2.length<=as.length+1->cY K A ex F [ra,rs,some (.ref p),rk,some (.int m),some (.int u),some (.int v),some (.int z),some (.int w),none,none,none] G2:=fun G2 as2 s o2 l2 =>
  ax4 s.1 (by omega) o2 fun G3 as3 s3 o3 l3=>h G3 as3 (s.trans s3) o3 (by omega)
 have no:=nx G as ⟨hp,fun q u n e=>e⟩ o (by omega);exists eH,cB (aF hp);refine c7 (fun c1=>?_) fun _=>no;refine c7 (fun c2=>?_) fun _=>no;rw [jX,aF hp];refine ⟨rfl,?_⟩;rw [p7 hp (by rw [bx];omega)];refine nx _ (as++[(if 0 < u - z then u - z else 0,w)]) ?_ (o.app (.one (by simp at c1;show 1<=w;omega))) (by simp);rw [iy];exact .put hp
theorem aeL {m u v:Int} (hp:G p=some (.lst (as.map cG))) (hl:as.length < 900) (hv:1<=v) (o:Pos as)
  (h:∀ G2 as2 r7 r8,HS G p (as2.map cG) G2->Pos as2->as2.length<=as.length+2->F.nx [ra,rs,some (.ref p),rk,some (.int m),some (.int u),some (.int v),r7,r8,none,none,none] G2):iD K A ex F [ra,rs,some (.ref p),rk,some (.int m),some (.int u),some (.int v),r7,r8,none,none,none] G:=by
 have big:10000 < sizeLine:=by decide
 exists iD;refine c7 (fun c1=>?_) fun _=>h G as _ _ ⟨hp,fun q u n e=>e⟩ o (by omega);intro q hq;refine a7D rfl (by decide) fun d hd=>?_
 obtain ⟨z,rfl⟩:∃ z,d = .int z:=by
  simp at hd;rcases hd with rfl | rfl | rfl | rfl <;> exact ⟨_,rfl⟩
 clear hd;have s1:HS G p (as.map cG) (aG G q (.lst [.int 0,.int 1,.int 2,.int (m / 300 % 10000)])):=HS.new ⟨hp,fun q u n e=>e⟩ hq;generalize aG G q (.lst [.int 0,.int 1,.int 2,.int (m / 300 % 10000)])=G1 at *;exists jJ;refine vD ?_;walk_at "wr";intro q2 hq2;refine a7D rfl (by decide) fun d hd=>?_
 obtain ⟨w,rfl⟩:∃ w,d = .int w:=by
  simp at hd;rcases hd with rfl | rfl | rfl <;> exact ⟨_,rfl⟩
 clear hd;walk_at "wr";have s2:=s1.new (o := .lst [.int v,.int v,.int (1+u9 m 3 % v),.int (v - 1)]) hq2;exact ax5 s2.1 hl o fun G3 as3 s3 o3 l3=>h G3 as3 _ _ (s2.trans s3) o3 l3
theorem aeM {α β:Type} {f:α->β} {xs:List α} {lo hi:Option Int}:cutD (xs.map f) lo hi=(cutD xs lo hi).map f:=by
 unfold L2.cutD;rw [bx,a0k,a0j]
theorem apM {α:Type} {xs:List α} {lo hi:Option Int} {x:α} (h:x∈cutD xs lo hi):x∈xs:=List.mem_of_mem_drop (List.mem_of_mem_take h)
theorem aeN {α:Type} {xs:List α} {lo hi:Option Int}:(cutD xs lo hi).length<=xs.length:=by
 unfold L2.cutD;rw [qx,a0l];omega
theorem apO {α:Type} {xs:List α} {t:Int} (h0:0<=t) (h1:t<=(xs.length:Int)):(L2.cutD xs (some t) none).length+(L2.cutD xs none (some t)).length=xs.length:=by
 obtain ⟨k,rfl⟩:∃ k:Nat,t=k:=⟨t.toNat,by omega⟩;unfold L2.cutD;simp only [qx,a0l,HT.ah9,HT.amP];omega
theorem al3 {lo hi:Option Int} (h:aL G p=some xs):anJ (.ref p) lo hi G R=∀ q,G q=none->R (.ref q) (aG G q (.lst (cutD xs lo hi))):=by
 unfold anJ;simp only [h]
theorem Pos.set {k:Nat} {q:Int×Int} (o:Pos as) (h:1<=q.2):Pos (as.set k q):=fun r hr=>by
 rcases List.mem_or_eq_of_mem_set hr with h1 | rfl
 ·exact o r h1
 ·exact h
theorem Pos.cut {lo hi:Option Int} (o:Pos as):Pos (L2.cutD as lo hi):=fun r hr=>o r (apM hr)
theorem a5H {i:Int} (hp:G p=some (.lst (as.map cG))) (o:Pos as) (h0:0<=i) (h1:i < (as.length:Int)) (h:∀ u v,1<=v->R (.tup [.int u,.int v]) G):cA (.ref p) (.int i) G R :=
 akJ (aF hp) h0 (by rw [bx];exact h1) fun d hd=>by
  obtain ⟨q,hq,rfl⟩:=kh.mp hd;exact h _ _ (o q hq)
theorem al4 {c:Int} {r3 r4 r6 r10 r11:Option D} (hp:G p=some (.lst (as.map cG))) (o:Pos as) (al:as.length<=50) (h:∀ q as2 G2,(∀ r u,r≠p->G r=some u->G2 r=some u)->G q=none->G2 q=some (.lst (as2.map cG))->Pos as2->as2.length<=50->F.rt (.ref q) G2):oA K A ex F [ra,rs,some (.ref p),r3,r4,r5,r6,r7,r8,some (.int c),r10,r11] G:=by
 have big:10000 < sizeLine:=by decide
 exists oA;refine vD ?_;exists cB (aF hp);have l0:0 < 1+(as.length:Int):=by omega
 exists v7,al3 (aF hp);intro q hq;have hp2:=bA (o := .lst (L2.cutD (as.map cG) (some (u9 c 5 % (1+(as.length:Int)))) none)) hp hq;exists al3 (aF hp2);intro q2 hq2
 rw [arI (bA aJ hq2) aJ (by
  have:=aeN (xs:=as.map cG) (lo:=some (u9 c 5 % (1+(as.length:Int)))) (hi:=none);have:=aeN (xs:=as.map cG) (lo:=none) (hi:=some (u9 c 5 % (1+(as.length:Int))));rw [bx] at *;omega)]
 intro q3 hq3
 have n3:G q3=none:=by
  cases e:G q3 with
  | none=>rfl
  | some u=>rw [bA (bA e hq) hq2] at hq3;cases hq3
 refine h q3 (L2.cutD as (some (u9 c 5 % (1+(as.length:Int)))) none++L2.cutD as none (some (u9 c 5 % (1+(as.length:Int))))) _ (fun r u n e=>bA (bA (bA e hq) hq2) hq3) n3 ?_ (o.cut.app o.cut) ?_
 ·rw [aJ,iy,← aeM,← aeM]
 ·have:=apO (xs:=as) (a08 (u9 c 5) (show 1+(as.length:Int)≠0 by omega)) (by have:=yc (u9 c 5) l0;omega);rw [mj];omega
theorem a7V {c:Int} {r3 r4 r6 r10 r11:Option D} (hp:G p=some (.lst (as.map cG))) (o:Pos as) (al:as.length<=48) (h:∀ q as2 G2,(∀ r u,r≠p->G r=some u->G2 r=some u)->G q=none->G2 q=some (.lst (as2.map cG))->Pos as2->as2.length<=50->F.rt (.ref q) G2):oE K A ex F [ra,rs,some (.ref p),r3,r4,r5,r6,r7,r8,some (.int c),r10,r11] G:=by
 have big:10000 < sizeLine:=by decide
 exists oE;refine c7 (fun _=>?_) fun _=>al4 hp o (by omega) h;rw [jX,aF hp];refine ⟨rfl,?_⟩;refine vD ?_;walk_at "wr";refine al2 fun u G1 l1=>?_;walk_at "wr";refine vD ?_;walk_at "wr";refine aaC fun v G2 l2 hv=>?_;walk_at "wr";have l:=l1.trans l2;have hp2:=l _ _ hp;rw [p7 hp2 (by rw [bx];omega)]
 have s2:HS G2 p ((as++[(u,v)]).map cG) (aG G2 p (.lst (as.map cG++[.tup [.int u,.int v]]))):=by
  rw [iy];exact .put hp2
 refine al4 s2.1 (o.app (.one hv)) (by simp;omega) fun q as2 G3 k n e o2 l2=>h q as2 G3 (fun r w m z=>k r w m (s2.2 r w m (l _ _ z))) ?_ e o2 l2;cases e:G q with
 | none=>rfl
 | some w =>
  by_cases m:q=p
  ·subst m;rw [s2.1] at n;cases n
  ·rw [s2.2 q w m (l _ _ e)] at n;cases n
theorem aaD {o o':GO} (hp:G p=some o) (n:aG G p o' q=none):G q=none:=by
 by_cases m:q=p
 ·subst m;rw [aJ] at n;cases n
 ·rw [bJ m] at n;exact n
theorem a7W {c:Int} {r3 r4 r6 r10 r11:Option D} (hp:G p=some (.lst (as.map cG))) (o:Pos as) (al:as.length<=48) (h:∀ q as2 G2,(∀ r u,r≠p->G r=some u->G2 r=some u)->G q=none->G2 q=some (.lst (as2.map cG))->Pos as2->as2.length<=50->F.rt (.ref q) G2):oF K A ex F [ra,rs,some (.ref p),r3,r4,r5,r6,r7,r8,some (.int c),r10,r11] G:=by
 have big:10000 < sizeLine:=by decide
 exists oF,cB (aF hp);refine c7 (fun _=>?_) fun _=>a7V hp o al h;refine c7 (fun c2=>?_) fun _=>a7V hp o al h;have l0:0 < (as.length:Int):=by simpa using c2
 refine vD ?_;exists cB (aF hp),pH,a7E;have i0:=a08 (u9 c 2) (show (as.length:Int)≠0 by omega);have i1:=yc (u9 c 2) l0;refine a5H hp o i0 i1 fun u v hv=>?_;walk_at "wr";refine a5H hp o i0 i1 fun u2 v2 hv2=>?_;walk_at "wr";rw [xF hp i0 (by rw [bx];exact i1)];rw [show ∀ z:Int,(as.map cG).set (u9 c 2 % (as.length:Int)).toNat (.tup [.int z,.int v2])=(as.set (u9 c 2 % (as.length:Int)).toNat (z,v2)).map cG from fun z=>by rw [a0w]];exact a7V aJ (o.set hv2) (by rw [a0t];exact al) fun q as2 G3 k n e o2 l2=>h q as2 G3 (fun r w m z=>k r w m (by rw [bJ m];exact z)) (aaD hp n) e o2 l2
theorem apP {c:Int} {r3 r4 r6 r10 r11:Option D} (hp:G p=some (.lst (as.map cG))) (o:Pos as) (al:as.length<=48) (h:∀ q as2 G2,(∀ r u,r≠p->G r=some u->G2 r=some u)->G q=none->G2 q=some (.lst (as2.map cG))->Pos as2->as2.length<=50->F.rt (.ref q) G2):oG K A ex F [ra,rs,some (.ref p),r3,r4,r5,r6,r7,r8,some (.int c),r10,r11] G:=by
 have big:10000 < sizeLine:=by decide
 exists oG,cB (aF hp);refine c7 (fun _=>?_) fun _=>a7W hp o al h;refine c7 (fun c2=>?_) fun _=>a7W hp o al h;have l0:0 < (as.length:Int):=by simpa using c2
 refine vD ?_;exists cB (aF hp),pG,a7E;have i0:=a08 (u9 c 1) (show (as.length:Int)≠0 by omega);have i1:=yc (u9 c 1) l0;refine a5H hp o i0 i1 fun u v hv=>?_;walk_at "wr";refine a5H hp o i0 i1 fun u2 v2 hv2=>?_;walk_at "wr";rw [xF hp i0 (by rw [bx];exact i1)];rw [show ∀ z:Int,(as.map cG).set (u9 c 1 % (as.length:Int)).toNat (.tup [.int u,.int z])=(as.set (u9 c 1 % (as.length:Int)).toNat (u,z)).map cG from fun z=>by rw [a0w]];refine a7W aJ (o.set ?_) (by rw [a0t];exact al) fun q as2 G3 k n e o2 l2=>h q as2 G3 (fun r w m z=>k r w m (by rw [bJ m];exact z)) (aaD hp n) e o2 l2;dsimp only;split
 ·omega
 ·decide
theorem ax7 {a s:Addr} (hG:G a=some (.rol (ns.map D.int))) (hs:G s=some (.lst (qs.map cG))) (hq:Pos qs) (ql:qs.length<=24) (h:∀ p as G',Le G G'->G p=none->G' p=some (.lst (as.map cG))->Pos as->as.length<=50->R (.ref p) G'):kW K A [.ref a,.ref s] G R EX:=by
 have big:10000 < sizeLine:=by decide
 refine ⟨rfl,?_⟩;have h':∀ p as G',Le G G'->G p=none->G' p=some (.lst (as.map cG))->Pos as->as.length<=50->bQ R (.ref p) G':=fun p qs G' l a b c d=>bQ.here (h p qs G' l a b c d);clear h;show tW K A _ _ [some (.ref a),some (.ref s),none,none,none,none,none,none,none,none,none,none] G;exists tW;intro p hp;exists v9,cB (aF (bA hs hp));have bnd:(-4611686018427387904:Int)<=(if (qs.length:Int) < 190 then (qs.length:Int) else 190)/\(if (qs.length:Int) < 190 then (qs.length:Int) else 190) < 4611686018427387904:=by split <;> omega
 clear bnd;refine a9T (fun k ρ G'=>∃ r3 r4 r5 r6 r7 r8 as,ρ=[some (.ref a),some (.ref s),some (.ref p),r3,r4,r5,r6,r7,r8,none,none,none]/\HS G p (as.map cG) G'/\Pos as/\as.length<=2 * k) ⟨_,_,_,_,_,_,[],rfl,.mk0,.nil,by simp⟩ (fun k ρ G' hk h=>?_) fun ρ G' h=>?_
 ·obtain ⟨_,_,_,_,_,_,as,rfl,s1,o,al⟩:=h;have kl:(k:Int) < qs.length:=by split at hk <;> omega
  have hG2:G' a=_:=s1.leG hp _ _ hG;have hs2:G' s=_:=s1.leG hp _ _ hs;exists tV;refine wB (k:=3) hG2 (by omega) ?_;walk_at "wr";refine vD ?_;exists pF;refine vD ?_;have l0:0 < (qs.length:Int):=by omega
  exists cB (aF hs2);refine a5H hs2 hq (a08 _ (by omega)) (yc _ l0) fun u v hv=>?_;exists pD;rw [sY rfl];walk_at "wr";refine c7 (fun _=>?_) fun _=>?_
  ·refine a5H hs2 hq (by omega) (by omega) fun u v hv=>?_;walk_at "wr";rw [sY rfl];walk_at "wr";exact aeL s1.1 (by omega) hv o fun G3 as3 r7 r8 s3 o3 l3=>⟨_,_,_,_,_,_,as3,rfl,s1.trans s3,o3,by omega⟩
  ·exact aeL s1.1 (by omega) hv o fun G3 as3 r7 r8 s3 o3 l3=>⟨_,_,_,_,_,_,as3,rfl,s1.trans s3,o3,by omega⟩
 ·obtain ⟨_,_,_,_,_,_,as,rfl,s1,o,al⟩:=h;have al:as.length<=48:=by split at al <;> omega
  have hG2:G' a=_:=s1.leG hp _ _ hG;exists v8;refine wB (k:=4) hG2 (by omega) ?_;walk_at "wr"
  exact apP s1.1 o al fun q as2 G3 k n e o2 l2=>h' q as2 G3 (fun r u z=>k r u (fun m=>by subst m;rw [hp] at z;cases z) (s1.leG hp _ _ z)) (by
   cases e:G q with
   | none=>rfl
   | some u=>rw [s1.leG hp _ _ e] at n;cases n) e o2 l2
noncomputable def gP (d:Int) (xs:List (Int×Int)):Int:=((xs.filter fun q=>decide (d<=q.1)).map (·.2)).sum
noncomputable def restOf (st as:List (Int×Int)) (d:Int):Int:=gP d st - gP d as
theorem a5I {d:Int} {xs ys:List (Int×Int)}:gP d (xs++ys)=gP d xs+gP d ys:=by
 unfold gP;rw [vg,iy,yd]
theorem a5J {d:Int} {q:Int×Int}:gP d [q]=if d<=q.1 then q.2 else 0:=by
 unfold gP;by_cases c:d<=q.1 <;> simp [c]
theorem qI {d:Int} {xs:List (Int×Int)} {k:Nat} {q:Int×Int} (h:xs[k]?=some q):gP d (xs.take (k+1))=gP d (xs.take k)+if d<=q.1 then q.2 else 0:=by
 rw [yu,h,a5I];exact congrArg _ a5J
theorem aeO {xs:List (Int×Int)} {k:Nat} {x:D} (h:(xs.map cG)[k]?=some x):∃ q,xs[k]?=some q/\x=cG q:=by
 rw [gw] at h;cases e:xs[k]? with
 | none=>rw [e] at h;cases h
 | some q=>rw [e] at h;cases h;exact ⟨q,rfl,rfl⟩
theorem apQ {st:List (Int×Int)} {d:Int} (hp:aL G p=some (st.map cG)) (hq:aL G q=some (as.map cG)) (h:R (.int (restOf st as d)) G):kY K A [.ref p,.ref q,.int d] G R EX:=by
 refine ⟨rfl,?_⟩;show tZ K A _ _ [some (.ref p),some (.ref q),some (.int d),none,none,none,none] G;exists tZ,vC;rw [oZ hp];refine sZ (fun k ρ G'=>∃ r4 r5,ρ=[some (.ref p),some (.ref q),some (.int d),some (.int (gP d (st.take k))),r4,r5,none]/\Le G G') ⟨_,_,rfl,.refl _⟩ (fun k ρ G' h=>h.elim fun _ h=>h.elim fun _ h=>aY h.2 hp) (fun k x ρ G' e h=>?_) fun ρ G' h=>?_
 ·obtain ⟨_,_,rfl,l⟩:=h;obtain ⟨⟨u,v⟩,e2,rfl⟩:=aeO e;unfold cG;rw [sY rfl];exists tX;refine c7 (fun c=>?_) fun c=>?_
  ·exact ⟨_,_,by rw [qI e2,if_pos (by simpa using c)],l⟩
  ·exact ⟨_,_,by rw [qI e2,if_neg (by simpa using c),a0x],l⟩
 ·obtain ⟨_,_,rfl,l⟩:=h;rw [bx,uw];exists vB;rw [oZ (aY l hq)];refine sZ (fun k ρ G2=>∃ r4 r5 r6,ρ=[some (.ref p),some (.ref q),some (.int d),some (.int (gP d st - gP d (as.take k))),r4,r5,r6]/\Le G G2) ⟨_,_,_,by rw [show gP d (as.take 0)=0 from rfl,Int.sub_zero],l⟩ (fun k ρ G2 h=>h.elim fun _ h=>h.elim fun _ h=>h.elim fun _ h=>aY h.2 hq) (fun k x ρ G2 e h=>?_) fun ρ G2 h=>?_
  ·obtain ⟨_,_,_,rfl,l⟩:=h;obtain ⟨⟨u,v⟩,e2,rfl⟩:=aeO e;unfold cG;rw [sY rfl];exists tY;refine c7 (fun c=>?_) fun c=>?_
   ·exact ⟨_,_,_,by rw [qI e2,if_pos (by simpa using c),Int.sub_sub],l⟩
   ·exact ⟨_,_,_,by rw [qI e2,if_neg (by simpa using c),a0x],l⟩
  ·obtain ⟨_,_,_,rfl,l⟩:=h;rw [bx,uw];exists vA;exact a7C h l
theorem yG {tc:vM} {te:cF} {ρ:aN} (c:Int->Int->Bool) (f:Int->Int->Int) (hq:aL G q=some (qs.map cG)) (hl:qs.length < 1000)
  (hc:∀ u v G',Le G G'->∀ Q:Bool->Gp->Prop,(∀ G'',Le G' G''->Q (c u v) G'')->tc (some (.int u) :: some (.int v) :: ρ) G' Q)
  (he:∀ u v G',Le G G'->∀ Q:D->Gp->Prop,(∀ G'',Le G' G''->Q (.int (f u v)) G'')->te (some (.int u) :: some (.int v) :: ρ) G' Q)
  (h:∀ p,G p=none->R (.ref p) (aG G p (.lst (((qs.filter fun q=>c q.1 q.2).map fun q=>f q.1 q.2).map D.int)))):akN (ai9 2) (.lst q (qs.map cG)) tc te ρ G R:=by
 have big:10000 < sizeLine:=by decide
 let g1:D->Int:=fun d=>match d with | .tup [.int u,_]=>u | _=>0
 let g2:D->Int:=fun d=>match d with | .tup [_,.int v]=>v | _=>0
 refine xE (fun d=>match d with | .tup xs=>xs | _=>[]) (fun d=>c (g1 d) (g2 d)) (fun d => .int (f (g1 d) (g2 d))) (by show (qs.map cG).length < _;rw [bx];omega) hq (fun d hd=>?_) (fun d hd G' l Q h=>?_) (fun d hd _ G' l Q h=>?_) fun p hp=>?_
 ·obtain ⟨q,_,rfl⟩:=kh.mp hd;rfl
 ·obtain ⟨q,_,rfl⟩:=kh.mp hd;exact hc _ _ G' l Q h
 ·obtain ⟨q,_,rfl⟩:=kh.mp hd;exact he _ _ G' l Q h
 ·have e:((qs.map cG).filter fun d=>c (g1 d) (g2 d)).map (fun d=>D.int (f (g1 d) (g2 d)))=((qs.filter fun q=>c q.1 q.2).map fun q=>f q.1 q.2).map D.int:=by
   rw [a0y,ud,ud];rfl
  show R _ (aG G p (.lst (((qs.map cG).filter _).map _)));rw [e];exact h p hp
noncomputable def oD:Option Int->D
 | none => .non
 | some d => .int d
noncomputable def cW (st as xs:List (Int×Int)):Option Int->Prop
 | none=>∀ q∈xs,0<=restOf st as q.1
 | some d=>(∃ q∈xs,q.1=d)/\restOf st as d < 0/\∀ q∈xs,restOf st as q.1 < 0->q.1<=d
theorem lK {st xs:List (Int×Int)} {o o':Option Int} (h:cW st as xs o) (h':cW st as xs o'):o=o':=by
 cases o with
 | none =>
  cases o' with
  | none=>rfl
  | some d =>
   obtain ⟨⟨q,hq,rfl⟩,lt,_⟩:=h';exact absurd (h q hq) (by omega)
 | some d =>
  obtain ⟨⟨q,hq,rfl⟩,lt,hm⟩:=h;cases o' with
  | none=>exact absurd (h' q hq) (by omega)
  | some d' =>
   obtain ⟨⟨q',hq',rfl⟩,lt',hm'⟩:=h';have:=hm q' hq' lt';have:=hm' q hq lt;rw [show q.1=q'.1 by omega]
theorem a2R {st xs:List (Int×Int)} {o:Option Int} {q:Int×Int} (h:cW st as xs o) (hq:restOf st as q.1 < 0->∃ d,o=some d/\q.1<=d):cW st as (xs++[q]) o:=by
 cases o with
 | none =>
  intro r hr;rcases qe.mp hr with hr | hr
  ·exact h r hr
  ·rw [jt] at hr;subst hr;by_cases c:0<=restOf st as r.1
   ·exact c
   ·obtain ⟨d,e,_⟩:=hq (by omega);cases e
 | some d =>
  obtain ⟨⟨z,hz,rfl⟩,lt,hm⟩:=h;refine ⟨⟨z,zc _ hz,rfl⟩,lt,fun r hr hl=>?_⟩;rcases qe.mp hr with hr | hr
  ·exact hm r hr hl
  ·rw [jt] at hr;subst hr;obtain ⟨d,e,hd⟩:=hq hl;cases e;exact hd
theorem a2S {st xs:List (Int×Int)} {o:Option Int} {q:Int×Int} (h:cW st as xs o) (lt:restOf st as q.1 < 0) (hq:∀ d,o=some d->d < q.1):cW st as (xs++[q]) (some q.1):=by
 refine ⟨⟨q,jf _ (jt.mpr rfl),rfl⟩,lt,fun r hr hl=>?_⟩;rcases qe.mp hr with hr | hr
 ·cases o with
  | none=>exact absurd (h r hr) (by omega)
  | some d =>
   have:=h.2.2 r hr hl;have:=hq d rfl;omega
 ·rw [jt] at hr;subst hr;omega
theorem take_one {α:Type} {xs:List α} {k:Nat} {q:α} (h:xs[k]?=some q):xs.take (k+1)=xs.take k++[q]:=by
 rw [yu,h];rfl
theorem arO {d:Int}:a3L (.int d) .non G R=R (.bl false) G:=rfl
theorem apR {d:Int}:a0Y (.int d) .non G R=R (.bl true) G:=rfl
theorem apS {st:List (Int×Int)} (hp:aL G p=some (st.map cG)) (hq:aL G q=some (as.map cG)) (h:∀ o,cW st as as o->R (oD o) G):iQ K A [.ref p,.ref q] G R EX:=by
 refine ⟨rfl,?_⟩;show qH K A _ _ [some (.ref p),some (.ref q),none,none,none] G;exists qH,u5;rw [oZ hq];refine sZ (fun k ρ G'=>∃ o r3 r4,ρ=[some (.ref p),some (.ref q),some (oD o),r3,r4]/\cW st as (as.take k) o/\Le G G') ⟨none,_,_,rfl,fun q h=>by simp at h,.refl _⟩ (fun k ρ G' h=>h.elim fun _ h=>h.elim fun _ h=>h.elim fun _ h=>aY h.2.2 hq) (fun k x ρ G' e h=>?_) fun ρ G' h=>?_
 ·obtain ⟨o,_,_,rfl,so,l⟩:=h;obtain ⟨⟨u,v⟩,e2,rfl⟩:=aeO e;unfold cG;rw [sY rfl];exists rC;refine apQ (aY l hp) (aY l hq) ?_;walk_at "wr";have et:=take_one e2;refine c7 (fun c=>?_) fun c=>?_
  ·have c:restOf st as u < 0:=by simpa using c
   cases o with
   | none =>
    rw [show oD none = .non from rfl];walk_at "wr";exact ⟨some u,_,_,rfl,et ▸ a2S so c (fun d e=>nomatch e),l⟩
   | some d =>
    rw [show oD (some d) = .int d from rfl];walk_at "wr";rw [arO];walk_at "wr";refine c7 (fun c2=>?_) fun c2=>?_
    ·exact ⟨some u,_,_,rfl,et ▸ a2S so c (fun d2 e=>by cases e;simpa using c2),l⟩
    ·exact ⟨some d,_,_,rfl,et ▸ a2R so (fun _=>⟨d,rfl,by simp at c2;exact c2⟩),l⟩
  ·exact ⟨o,_,_,rfl,et ▸ a2R so (fun z=>absurd z (by simpa using c)),l⟩
 ·obtain ⟨o,_,_,rfl,so,l⟩:=h;rw [bx,uw] at so;exists u0;exact a7C (h o so) l
theorem ax8 {st:List (Int×Int)} {d:Int} (hp:aL G p=some (st.map cG)) (hq:aL G q=some (as.map cG)) (ls:st.length < 1000) (la:as.length < 1000) (h:R (.int (restOf st as d)) G):a0H K A [.ref p,.ref q,.int d] G R EX:=by
 have big:10000 < sizeLine:=by decide
 refine ⟨rfl,?_⟩;show ac3 K A _ _ [some (.ref p),some (.ref q),some (.int d),none] G;exists ac3;rw [oY hp];refine yG (fun u _=>decide (d<=u)) (fun _ v=>v) hp ls (fun u v G' l Q h=>by walk_at "wr";exact h G' (.refl _)) (fun u v G' l Q h=>h G' (.refl _)) fun r hr=>?_;rw [arJ dI];exists a9W;rw [oY (aY (.new hr) hq)];refine yG (fun u _=>decide (d<=u)) (fun _ v=>v) (aY (.new hr) hq) la (fun u v G' l Q h=>by walk_at "wr";exact h G' (.refl _)) (fun u v G' l Q h=>h G' (.refl _)) fun r2 hr2=>?_;rw [arJ dI];walk_at "wr";exact a7C h ((Le.new hr).trans (.new hr2))
noncomputable def qJ (st as:List (Int×Int)):List Int:=(as.filter fun q=>decide (restOf st as q.1 < 0)).map fun q=>q.1
theorem a5K {st:List (Int×Int)} {d:Int} (h:d∈qJ st as):(∃ q∈as,q.1=d)/\restOf st as d < 0:=by
 obtain ⟨z,hz,rfl⟩:=kh.mp h;have hz:=a0q.mp hz;exact ⟨⟨z,hz.1,rfl⟩,by simpa using hz.2⟩
theorem a5L {st:List (Int×Int)} {q:Int×Int} (h:q∈as) (l:restOf st as q.1 < 0):q.1∈qJ st as:=kh.mpr ⟨q,a0q.mpr ⟨h,by simpa using l⟩,rfl⟩
theorem a5M {st:List (Int×Int)} (h:qJ st as=[]):cW st as as none:=fun z hz=>by
 by_cases c:0<=restOf st as z.1
 ·exact c
 ·have:=a5L hz (show restOf st as z.1 < 0 by omega);rw [h] at this;cases this
theorem a5N {st:List (Int×Int)} {M:Int} (h:M∈qJ st as) (hm:∀ a∈qJ st as,a<=M):cW st as as (some M):=⟨(a5K h).1,(a5K h).2,fun q hq l=>hm _ (a5L hq l)⟩
theorem agA {st:List (Int×Int)} (h:qJ st as≠[]):∃ d,cW st as as (some d):=by
 have key:∀ l:List Int,l≠[]->∃ M∈l,∀ a∈l,a<=M:=by
  intro l
  induction l with
  | nil=>intro h;exact absurd rfl h
  | cons x r ih =>
   intro _;by_cases c:r=[]
   ·subst c;exact ⟨x,by simp,fun a ha=>by simp at ha;omega⟩
   ·obtain ⟨M,hM,hm⟩:=ih c;by_cases c2:x<=M
    ·exact ⟨M,by simp [hM],fun a ha=>(jc.mp ha).elim (fun e=>by rw [e];exact c2) (hm a)⟩
    ·exact ⟨x,by simp,fun a ha=>(jc.mp ha).elim (fun e=>by rw [e];exact mq _) fun h=>by have:=hm a h;omega⟩
 obtain ⟨M,hM,hm⟩:=key _ h;exact ⟨M,a5N hM hm⟩
theorem yH {st:List (Int×Int)} (hp:aL G p=some (st.map cG)) (hq:aL G q=some (as.map cG)) (ls:st.length < 1000) (la:as.length < 1000) (h:∀ r G',Le G G'->aL G' r=some ((qJ st as).map D.int)->R (.ref r) G'):dN K A [.ref p,.ref q] G R EX:=by
 have big:10000 < sizeLine:=by decide
 refine ⟨rfl,?_⟩;show qD K A _ _ [some (.ref p),some (.ref q)] G;exists qD;rw [oY hq];refine yG (fun u _=>decide (restOf st as u < 0)) (fun u _=>u) hq la (fun u v G' l Q h=>by walk_at "wr";refine ax8 (aY l hp) (aY l hq) ls la ?_;walk_at "wr";exact h G' (.refl _)) (fun u v G' l Q h=>h G' (.refl _)) fun r hr=>?_;exact bQ.here (h r _ (.new hr) dI)
theorem wC {st:List (Int×Int)} (hp:aL G p=some (st.map cG)) (hq:aL G q=some (as.map cG)) (ls:st.length < 1000) (la:as.length < 1000) (h:∀ o G',Le G G'->cW st as as o->R (.bl o.isNone) G'):fH K A [.ref p,.ref q] G R EX:=by
 refine ⟨rfl,?_⟩;have h':∀ o G',Le G G'->cW st as as o->bQ R (.bl o.isNone) G':=fun o G' l s=>bQ.here (h o G' l s);show w5 K A _ _ [some (.ref p),some (.ref q)] G;exists w5;refine yH hp hq ls la fun r G' l hr=>?_;exists cB hr;by_cases c:qJ st as=[]
 ·rw [c];exact h' none G' l (a5M c)
 ·obtain ⟨d,hd⟩:=agA c
  have e:(((qJ st as).length:Int) == 0)=false:=by
   have:=List.length_pos_iff.mpr c;simp;omega
  rw [e];exact h' (some d) G' l hd
theorem aaE {st:List (Int×Int)} (hp:aL G p=some (st.map cG)) (hq:aL G q=some (as.map cG)) (ls:st.length < 1000) (la:as.length < 1000) (h:∀ o G',Le G G'->cW st as as o->R (oD o) G'):jY K A [.ref p,.ref q] G R EX:=by
 refine ⟨rfl,?_⟩;have h':∀ o G',Le G G'->cW st as as o->bQ R (oD o) G':=fun o G' l s=>bQ.here (h o G' l s);show tM K A _ _ [some (.ref p),some (.ref q)] G;exists tM;refine yH hp hq ls la fun r G' l hr=>?_;walk_at "wr";exact awR hr (fun e=>h' none G' l (a5M e)) fun M hM hm=>h' (some M) G' l (a5N hM hm)
noncomputable def gr (d:Int) (q:Int×Int) (l w:Int):Int:=if d<=q.1 then (if w < l then w else l) else 0
noncomputable def gvs (d:Int):List (Int×Int)->List Int->Int->List Int
 | q :: st,l :: L,w=>gr d q l w :: gvs d st L (w - gr d q l w)
 | _,_,_=>[]
noncomputable def jE (L gs:List Int):List Int:=List.zipWith (fun a b=>a - b) L gs
noncomputable def avail (d:Int):List (Int×Int)->List Int->Int
 | q :: st,l :: L=>(if d<=q.1 then l else 0)+avail d st L
 | _,_=>0
def NN (L:List Int):Prop:=∀ l∈L,0<=l
noncomputable def uR (L:List Int):Nat:=L.countP fun l=>decide (0 < l)
theorem NN.cons {l:Int} {L:List Int} (h:NN (l :: L)):0<=l/\NN L:=⟨h l (jj ..),fun x hx=>h x (iu _ hx)⟩
theorem NN.mk (h:0<=l) (hL:NN L):NN (l :: L):=fun x hx=>(jc.mp hx).elim (fun e=>e ▸ h) (hL x)
theorem aC1 {d w:Int} {q:Int×Int} (hl:0<=l) (hw:0<=w):0<=gr d q l w/\gr d q l w<=l/\gr d q l w<=w/\(0 < gr d q l w->d<=q.1)/\(d<=q.1->gr d q l w=w∨gr d q l w=l):=by
 unfold gr;split
 ·split <;> refine ⟨by omega,by omega,by omega,fun _=>‹_›,fun _=>by omega⟩
 ·exact ⟨by omega,by omega,by omega,fun z=>absurd z (by omega),fun z=>absurd z ‹_›⟩
structure Gv (d:Int) (st:List (Int×Int)) (L:List Int) (w:Int) (gs:List Int):Prop where
 len:gs.length=st.length
 nn:NN gs
 left:NN (jE L gs)
 apT:(jE L gs).length=st.length
 due:∀ (k:Nat) (g:Int) (q:Int×Int),gs[k]?=some g->st[k]?=some q->0 < g->d<=q.1
 sum:gs.sum<=w/\(w<=avail d st L->gs.sum=w)
 rest:∀ d',d'<=d->avail d' st (jE L gs)=avail d' st L - gs.sum
 cnt:uR gs+uR (jE L gs)<=uR L+1
 none:w=0->uR gs=0/\jE L gs=L
theorem aaF {d:Int}:∀ {st:List (Int×Int)} {L:List Int},NN L->0<=avail d st L
 | q :: st,l :: L,h=>by
  have:=aaF (d:=d) (st:=st) h.cons.2;have:=h.cons.1;unfold avail;split <;> omega
 | [],_,_=>by unfold avail;omega
 | _ :: _,[],_=>by unfold avail;omega
theorem aaG {d:Int}:∀ {st:List (Int×Int)} {L:List Int} {w:Int},L.length=st.length->NN L->0<=w->Gv d st L w (gvs d st L w)
 | [],[],w,_,_,hw=>⟨rfl,(fun x hx=>nomatch hx),(fun x hx=>nomatch hx),rfl,fun k g q e=>by simp [gvs] at e,⟨by simp [gvs];exact hw,fun h=>by simp [gvs,avail] at h ⊢;omega⟩,fun d' _=>by simp [gvs,avail],by simp [gvs,uR,jE],fun _=>⟨rfl,rfl⟩⟩
 | [],_ :: _,_,h,_,_=>absurd h (by simp)
 | _ :: _,[],_,h,_,_=>absurd h (by simp)
 | q :: st,l :: L,w,hl,hn,hw=>by
  obtain ⟨l0,nL⟩:=hn.cons;obtain ⟨g0,g1,g2,g3,g4⟩:=aC1 (d:=d) (q:=q) l0 hw;have eg:gvs d (q :: st) (l :: L) w=gr d q l w :: gvs d st L (w - gr d q l w):=rfl;have ih:=aaG (d:=d) (st:=st) (L:=L) (w:=w - gr d q l w) (by simpa using hl) nL (by omega);rw [eg];generalize hg:gr d q l w=g at *;generalize gvs d st L (w - g)=gs at *;have es:jE (l :: L) (g :: gs)=(l - g) :: jE L gs:=rfl;refine ⟨by simp [ih.len],NN.mk g0 ih.nn,by rw [es];exact NN.mk (by omega) ih.left,by rw [es];simp [ih.apT],fun k g' q' e1 e2 hp=>?_,?_,fun d' hd=>?_,?_,fun hz=>?_⟩
  ·cases k with
   | zero=>simp at e1 e2;subst e1;subst e2;exact g3 hp
   | succ k=>exact ih.due k g' q' (by simpa using e1) (by simpa using e2) hp
  ·rw [rm];refine ⟨by have:=ih.sum.1;omega,fun h=>?_⟩;have h:w<=(if d<=q.1 then l else 0)+avail d st L:=h;by_cases c:d<=q.1
   ·rw [if_pos c] at h;rcases g4 c with e | e
    ·have:=ih.sum.2 (by have:=aaF (d:=d) (st:=st) nL;omega);omega
    ·have:=ih.sum.2 (by omega);omega
   ·rw [if_neg c] at h
    have:g=0:=by
     have:=fun z:0 < g=>c (g3 z);omega
    have:=ih.sum.2 (by omega);omega
  ·rw [es,rm];show (if d'<=q.1 then l - g else 0)+avail d' st (jE L gs)=(if d'<=q.1 then l else 0)+avail d' st L - (g+gs.sum);rw [ih.rest d' hd];split
   ·omega
   ·have:g=0:=by
     have:=fun z:0 < g=>g3 z;omega
    omega
  ·rw [es];have:=ih.cnt;unfold uR at *;rw [zu,zu,zu];by_cases c:g=l
   ·subst c;simp only [Int.sub_self,Int.lt_irrefl,decide_false,fj,if_false];split <;> omega
   ·by_cases c2:0 < g
    ·have e:g=w:=by
      rcases g4 (g3 c2) with e | e
      ·exact e
      ·exact absurd e c
     obtain ⟨n1,n2⟩:=ih.none (by omega);unfold uR at n1;rw [n1,n2];simp only [decide_eq_true c2,decide_eq_true (show 0 < l - g by omega),decide_eq_true (show 0 < l by omega),if_true];omega
    ·have e:g=0:=by omega
     subst e;simp only [Int.sub_zero,Int.lt_irrefl,decide_false,fj,if_false];omega
  ·have e:g=0:=by omega
   obtain ⟨n1,n2⟩:=ih.none (by omega);rw [es,n2,e];refine ⟨?_,by simp⟩;unfold uR at *;rw [zu,n1];simp
noncomputable def prs:List Int->Nat->List (Nat×Int)
 | [],_=>[]
 | g :: gs,k=>if 0 < g then (k,g) :: prs gs (k+1) else prs gs (k+1)
theorem a0L:∀ {gs:List Int} {k p:Nat} {m:Int},(p,m)∈prs gs k->k<=p/\gs[p - k]?=some m/\0 < m
 | [],k,p,m,h=>by simp [prs] at h
 | g :: gs,k,p,m,h=>by
  have go:(p,m)∈prs gs (k+1)->k<=p/\(g :: gs)[p - k]?=some m/\0 < m:=fun h=>by
   obtain ⟨a,b,c⟩:=a0L h;refine ⟨by omega,?_,c⟩;rw [show p - k=(p - (k+1))+1 by omega];simpa using b
  unfold prs at h;split at h
  ·rcases jc.mp h with e | h
   ·cases e;exact ⟨au _,by simp,‹_›⟩
   ·exact go h
  ·exact go h
theorem al5:∀ {gs:List Int} {k:Nat},((prs gs k).map (·.1)).Nodup
 | [],k=>by simp [prs]
 | g :: gs,k=>by
  have ih:=al5 (gs:=gs) (k:=k+1);unfold prs;split
  ·rw [jm,oh];refine ⟨fun h=>?_,ih⟩;obtain ⟨⟨p,m⟩,h1,h2⟩:=kh.mp h;have:=(a0L h1).1;have h2:p=k:=h2;omega
  ·exact ih
theorem wZ:∀ {gs:List Int} {k:Nat},(prs gs k).length=uR gs
 | [],k=>rfl
 | g :: gs,k=>by
  have ih:=wZ (gs:=gs) (k:=k+1);unfold uR at *;rw [zu];unfold prs;split
  ·rename_i c;rw [qg,ih];simp [c]
  ·rename_i c;rw [ih];simp [c]
theorem aeP:∀ {gs:List Int} {k:Nat},NN gs->((prs gs k).map (·.2)).sum=gs.sum
 | [],k,_=>rfl
 | g :: gs,k,h=>by
  have ih:=aeP (k:=k+1) h.cons.2;have:=h.cons.1;unfold prs;split
  ·rw [jm,rm,rm,ih]
  ·rw [ih,rm];omega
noncomputable abbrev Row:=Nat×Nat×Int
noncomputable def pJ (a:Nat) (gs:List Int):List Row:=(prs gs 0).map fun z=>(a,z.1,z.2)
noncomputable def uT (a:Nat) (Z:List Row):Int:=((Z.filter fun r=>decide (r.1=a)).map fun r=>r.2.2).sum
noncomputable def plS (p:Nat) (Z:List Row):Int:=((Z.filter fun r=>decide (r.2.1=p)).map fun r=>r.2.2).sum
variable {Z Y:List Row}
theorem aaH {a:Nat}:uT a (Z++Y)=uT a Z+uT a Y:=by
 unfold uT;rw [vg,iy,yd]
theorem aeQ {p:Nat}:plS p (Z++Y)=plS p Z+plS p Y:=by
 unfold plS;rw [vg,iy,yd]
theorem agB {a b:Nat} (h:NN gs):uT a (pJ b gs)=if b=a then gs.sum else 0:=by
 unfold uT pJ;rw [a0y];by_cases c:b=a
 ·rw [if_pos c,← aeP h (k:=0)];congr 1;rw [wu.mpr (fun z _=>by simp [c]),ud];rfl
 ·rw [if_neg c];rw [vf.mpr (fun z _=>by simp [c])];rfl
theorem aeR {p:Nat}:∀ {gs:List Int} {k:Nat},NN gs->((((prs gs k)).filter fun z=>decide (z.1=p)).map (·.2)).sum=if k<=p then gs.getD (p - k) 0 else 0
 | [],k,_=>by simp [prs]
 | g :: gs,k,h=>by
  have ih:=aeR (p:=p) (k:=k+1) h.cons.2;have g0:=h.cons.1
  have ax9:∀ z∈prs gs (k+1),z.1≠k:=fun z hz e=>by
   have:=(a0L (p:=z.1) (m:=z.2) hz).1;omega
  unfold prs;by_cases c:k=p
  ·subst c;have e0:((prs gs (k+1)).filter fun z=>decide (z.1=k))=[]:=vf.mpr fun z hz=>by simpa using ax9 z hz
   rw [if_pos (au _),Nat.sub_self];split
   ·rw [List.filter_cons_of_pos (by simp),e0];simp
   ·rw [e0];simp;omega
  ·have e1:((if 0 < g then (k,g) :: prs gs (k+1) else prs gs (k+1)).filter fun z=>decide (z.1=p))=(prs gs (k+1)).filter fun z=>decide (z.1=p):=by
    split
    ·rw [List.filter_cons_of_neg (by simpa using c)]
    ·rfl
   rw [e1,ih];by_cases d:k<=p
   ·rw [if_pos d,if_pos (by omega),show p - k=(p - (k+1))+1 by omega];simp
   ·rw [if_neg d,if_neg (by omega)]
theorem al6 {p b:Nat} (h:NN gs):plS p (pJ b gs)=gs.getD p 0:=by
 have:=aeR (p:=p) (k:=0) h;rw [if_pos (je _),Nat.sub_zero] at this;rw [← this];unfold plS pJ;rw [a0y,ud];rfl
theorem a2T {l l':List Int} (h:l.Perm l'):l.sum=l'.sum:=by
 induction h with
 | nil=>rfl
 | cons x _ ih=>rw [rm,rm,ih]
 | swap x y l=>simp only [rm];omega
 | trans _ _ a b=>exact a.trans b
theorem agC {a:Nat} (h:Z.Perm Y):uT a Z=uT a Y:=a2T ((h.filter _).map _)
theorem al7 {p:Nat} (h:Z.Perm Y):plS p Z=plS p Y:=a2T ((h.filter _).map _)
noncomputable def dD (as:List (Int×Int)) (a:Nat):Int×Int:=as.getD a (0,0)
noncomputable def rows (st as:List (Int×Int)):List Nat->List Int->List Row
 | [],_=>[]
 | a :: os,L=>pJ a (gvs (dD as a).1 st L (dD as a).2)++rows st as os (jE L (gvs (dD as a).1 st L (dD as a).2))
noncomputable def wsum (as:List (Int×Int)) (l:List Nat):Int:=(l.map fun i=>(dD as i).2).sum
theorem a2U (h:Pos as) (a:Nat):0<=(dD as a).2:=by
 unfold dD;by_cases c:a < as.length
 ·have:=h as[a] (uz c);simp [iz,c];omega
 ·simp [iz,zf c]
theorem aeS {as:List (Int×Int)} (h:Pos as):∀ l:List Nat,0<=wsum as l
 | []=>by simp [wsum]
 | a :: l=>by
  have:=aeS h l;have:=a2U h a;unfold wsum at *;rw [jm,rm];omega
theorem al8 {d:Int}:gP d as=wsum as ((dh as.length).filter fun i=>decide (d<=(dD as i).1)):=by
 have e:as=(dh as.length).map (dD as):=by
  apply ux (by simp);intro i h1 h2;simp [dD,iz,h1]
 unfold gP wsum
 conv=>lhs;rw [e]
 rw [a0y,ud];rfl
structure Sh (st as:List (Int×Int)) (os:List Nat) (L:List Int) (Z:List Row):Prop where
 row:∀ r∈Z,r.1∈os/\r.2.1 < st.length/\0 < r.2.2/\(dD as r.1).1<=(dD st r.2.1).1
 ask:∀ a∈os,uT a Z=(dD as a).2
 pl:∀ p,p < st.length->plS p Z<=L.getD p 0
 nd:(Z.map fun r=>(r.1,r.2.1)).Nodup
 cnt:Z.length<=os.length+uR L
theorem a5O {a:Nat} (h:∀ r∈Z,r.1≠a):uT a Z=0:=by
 unfold uT;rw [vf.mpr fun r hr=>by simpa using h r hr];rfl
theorem agD (h:L.length=gs.length) (p:Nat):(jE L gs).getD p 0=L.getD p 0 - gs.getD p 0:=by
 unfold jE;by_cases c:p < L.length
 ·have c2:p < gs.length:=h ▸ c;simp [iz,c,c2,yw]
 ·have c2:gs.length<=p:=by omega
  simp [iz,zf c,c2,yw]
theorem arP {st as:List (Int×Int)} {n:Nat} (hn:n=as.length) (hp:Pos as) (hk:∀ q∈as,0<=restOf st as q.1) {all:List Nat} (pm:all.Perm (dh n)) (dn:all.Pairwise fun a b=>(dD as b).1<=(dD as a).1) :
  ∀ (os pre:List Nat) (L:List Int),pre++os=all->L.length=st.length->NN L->(∀ d,(∀ b∈pre,d<=(dD as b).1)->avail d st L=gP d st - wsum as pre)->Sh st as os L (rows st as os L)
 | [],pre,L,_,hl,nn,_=>⟨(fun r h=>nomatch h),(fun a h=>nomatch h),fun p hp=>by
   show (0:Int)<=_;by_cases c:p < L.length
   ·have:=nn L[p] (uz c);simp [iz,c,this]
   ·omega,List.nodup_nil,je _⟩
 | a :: os,pre,L,e,hl,nn,av=>by
  have ha:a∈all:=by rw [← e];simp
  have an:a < as.length:=by have:=ji.mp (pm.mem_iff.mp ha);omega
  have nd:all.Nodup:=pm.nodup_iff.mpr List.nodup_range;have dn':=dn;rw [← e,jw] at dn';have al9:∀ b∈pre,(dD as a).1<=(dD as b).1:=fun b hb=>dn'.2.2 b hb a (jj ..);have mem:dD as a∈as:=by unfold dD;simp [iz,an]
  have g:=aaG (d:=(dD as a).1) (st:=st) (L:=L) (w:=(dD as a).2) hl nn (a2U hp a)
  have room:(dD as a).2<=avail (dD as a).1 st L:=by
   rw [av _ al9];have h1:=hk _ mem;unfold restOf at h1
   have h2:wsum as pre+(dD as a).2<=gP (dD as a).1 as:=by
    rw [al8,← hn];have pf:=(pm.filter fun i=>decide ((dD as a).1<=(dD as i).1)).symm;rw [show wsum as ((dh n).filter fun i=>decide ((dD as a).1<=(dD as i).1))=wsum as (all.filter fun i=>decide ((dD as a).1<=(dD as i).1)) from a2T (pf.map _)];rw [← e,vg,wu.mpr (fun b hb=>by simpa using al9 b hb),List.filter_cons_of_pos (by simp)];have h3:=aeS hp (os.filter fun i=>decide ((dD as a).1<=(dD as i).1));unfold wsum at *;rw [iy,yd,jm,rm];omega
   omega
  have hs:=g.sum.2 room;rw [show rows st as (a :: os) L=pJ a (gvs (dD as a).1 st L (dD as a).2)++rows st as os (jE L (gvs (dD as a).1 st L (dD as a).2)) from rfl];generalize gvs (dD as a).1 st L (dD as a).2=gs at *
  have ih:=arP hn hp hk pm dn os (pre++[a]) (jE L gs) (by rw [jz];exact e) g.apT g.left fun d hd=>by
   rw [g.rest d (hd a (by simp)),av d fun b hb=>hd b (by simp [hb]),hs];unfold wsum;rw [iy,yd];simp;omega
  have aos:a ∉ os:=by
   rw [← e,List.nodup_append] at nd;exact (oh.mp nd.2.1).1
  have rA:∀ r∈pJ a gs,r.1=a/\r.2.1 < st.length/\0 < r.2.2/\(dD as a).1<=(dD st r.2.1).1:=fun r hr=>by
   obtain ⟨⟨p,m⟩,h1,rfl⟩:=kh.mp hr;obtain ⟨_,h2,h3⟩:=a0L h1;rw [Nat.sub_zero] at h2;have pl:p < st.length:=by rw [← g.len];exact (cj.mp h2).1
   refine ⟨rfl,pl,h3,?_⟩;have:=g.due p m st[p] h2 (dj pl) h3;show _<=(dD st p).1;rw [show dD st p=st[p] by unfold dD;simp [iz,pl]];exact this
  refine ⟨fun r hr=>?_,fun b hb=>?_,fun p hp2=>?_,?_,?_⟩
  ·rcases qe.mp hr with hr | hr
   ·obtain ⟨h1,h2,h3,h4⟩:=rA r hr;rw [h1];exact ⟨by simp,h2,h3,h4⟩
   ·obtain ⟨h1,h2⟩:=ih.row r hr;exact ⟨iu _ h1,h2⟩
  ·rw [aaH,agB g.nn];rcases jc.mp hb with rfl | hb
   ·rw [if_pos rfl,hs,a5O fun r hr z=>aos (by rw [← z];exact (ih.row r hr).1)];omega
   ·rw [if_neg (fun z=>aos (by rw [z];exact hb)),ih.ask b hb];omega
  ·rw [aeQ,al6 g.nn];have:=ih.pl p hp2;rw [agD (by rw [hl,g.len])] at this;omega
  ·rw [iy,List.nodup_append];refine ⟨?_,ih.nd,fun x hx y hy z=>?_⟩
   ·have:=al5 (gs:=gs) (k:=0);unfold pJ;rw [ud];rw [List.Nodup,List.pairwise_map] at this ⊢;exact this.imp fun h z=>h (by simpa using z)
   ·obtain ⟨r,hr,rfl⟩:=kh.mp hx;obtain ⟨r',hr',rfl⟩:=kh.mp hy;have h1:=(rA r hr).1;have h2:=(ih.row r' hr').1;have z1:r.1=r'.1:=by simpa using (Prod.mk.inj z).1
    exact aos (by rw [← h1,z1];exact h2)
  ·rw [mj,qg];have h1:=ih.cnt;have h2:=g.cnt;unfold pJ;rw [bx,wZ];omega
theorem alA {d:Int}:∀ {st:List (Int×Int)} {L:List Int} {w:Int} {k:Nat} {q:Int×Int} {l:Int},st[k]?=some q->L[k]?=some l->(gvs d st L w)[k]?=some (gr d q l (w - ((gvs d st L w).take k).sum))
 | [],_,_,_,_,_,h,_=>by simp at h
 | _ :: _,[],_,_,_,_,_,h=>by simp at h
 | q :: st,l :: L,w,0,q',l',h1,h2=>by
  simp at h1 h2;subst h1;subst h2;simp [gvs]
 | q :: st,l :: L,w,k+1,q',l',h1,h2=>by
  have ih:=alA (d:=d) (st:=st) (L:=L) (w:=w - gr d q l w) (k:=k) (by simpa using h1) (by simpa using h2);show (gr d q l w :: gvs d st L (w - gr d q l w))[k+1]?=some (gr d q' l' (w - ((gr d q l w :: gvs d st L (w - gr d q l w)).take (k+1)).sum));rw [List.getElem?_cons_succ,ih,List.take_succ_cons,rm,← Int.sub_sub]
theorem aaI:∀ {xs:List Int} {g:Int} {j:Nat},prs (xs++[g]) j=prs xs j++if 0 < g then [(j+xs.length,g)] else []
 | [],g,j=>by simp [prs]
 | x :: xs,g,j=>by
  have ih:=aaI (xs:=xs) (g:=g) (j:=j+1);show (if 0 < x then (j,x) :: prs (xs++[g]) (j+1) else prs (xs++[g]) (j+1))=(if 0 < x then (j,x) :: prs xs (j+1) else prs xs (j+1))++_;rw [ih,show j+1+xs.length=j+(x :: xs).length by simp;omega];split <;> simp
noncomputable abbrev prN (z:Nat×Int):D := .tup [.int (z.1:Int),.int z.2]
noncomputable def LLk (L gs:List Int) (k:Nat):List Int:=(jE L gs).take k++L.drop k
theorem alB {k:Nat} (h:L.length=gs.length) (hk:k<=L.length):(LLk L gs k)[k]?=L[k]?:=by
 unfold LLk jE;rw [nq (by simp;omega)];simp [List.getElem?_drop];congr 1;omega
theorem apU {k:Nat} {g:Int} (h:L.length=gs.length) (h1:L[k]?=some l) (h2:gs[k]?=some g):(LLk L gs k).set k (l - g)=LLk L gs (k+1):=by
 have hk:=(cj.mp h1).1;have hs:(jE L gs)[k]?=some (l - g):=by unfold jE;rw [yw,h1,h2]
 have lt:((jE L gs).take k).length=k:=by unfold jE;simp;omega
 unfold LLk;rw [List.set_append_right _ _ (by omega),lt,Nat.sub_self,yu,hs,uh hk,List.set_cons_zero,jz];rfl
theorem alC {k:Nat} {g:Int} (h:L.length=gs.length) (h1:L[k]?=some l) (h2:gs[k]?=some g) (g0:g=0):LLk L gs k=LLk L gs (k+1):=by
 have hk:=(cj.mp h1).1;have hs:(jE L gs)[k]?=some l:=by unfold jE;rw [yw,h1,h2,g0];simp
 unfold LLk;rw [yu,hs,uh hk,(cj.mp h1).2,jz];rfl
theorem qK {s:Addr} (k:∀ u,G s=some u->G' s=some u) (hs:aL G s=some xs):aL G' s=some xs:=by
 unfold aL at hs ⊢;cases e:G s with
 | none=>rw [e] at hs;cases hs
 | some u=>rw [k u e];rw [e] at hs;exact hs
variable {l:Addr}
theorem aaJ {wk lk g:Int} {k:Nat} {rd rq:Option D} {LL:List Int} (hp:G p=some (.lst xs)) (hl:G l=some (.lst (LL.map D.int))) (npl:p≠l) (xl:xs.length < 2000) (hk:LL[k]?=some lk) (g0:0<=g)
  (h1:0 < g->F.nx [rs,some (.ref l),rd,some (.int (wk - g)),some (.ref p),some (.int (k:Int)),rq,some (.int g)] (aG (aG G p (.lst (xs++[.tup [.int (k:Int),.int g]]))) l (.lst ((LL.set k (lk - g)).map D.int))))
  (h2:g=0->F.nx [rs,some (.ref l),rd,some (.int wk),some (.ref p),some (.int (k:Int)),rq,some (.int g)] G):jZ K A ex F [rs,some (.ref l),rd,some (.int wk),some (.ref p),some (.int (k:Int)),rq,some (.int g)] G:=by
 have big:10000 < sizeLine:=by decide
 exists jZ;refine c7 (fun c=>?_) fun c=>?_
 ·have c:0 < g:=by simpa using c
  rw [jX,aF hp];refine ⟨rfl,?_⟩;rw [p7 hp (by omega)];exists qX;have hl2:aG G p (.lst (xs++[.tup [.int (k:Int),.int g]])) l=some (.lst (LL.map D.int)):=by rw [bJ (Ne.symm npl)];exact hl
  refine L13.akV (a:=lk) hl2 (by omega) (by rw [nj,gw,hk];rfl) ?_;exists qW;refine ⟨hl2,?_⟩;rw [nj,show (LL.map D.int).set k (.int (lk - g))=(LL.set k (lk - g)).map D.int by rw [a0w]];exact h1 c
 ·exact h2 (by simp at c;omega)
theorem apV {s:Addr} {st:List (Int×Int)} {d w:Int} (hs:aL G s=some (st.map cG)) (hl:G l=some (.lst (L.map D.int))) (len:L.length=st.length) (nn:NN L) (w0:0<=w) (ls:st.length < 1000) (hsl:s≠l)
  (h:∀ r G',(∀ q u,q≠l->G q=some u->G' q=some u)->r≠l->G r=none->G' l=some (.lst ((jE L (gvs d st L w)).map D.int))->G' r=some (.lst ((prs (gvs d st L w) 0).map prN))->R (.ref r) G'):xO K A [.ref s,.ref l,.int d,.int w] G R EX:=by
 have big:10000 < sizeLine:=by decide
 refine ⟨rfl,?_⟩;show a7J K A _ _ [some (.ref s),some (.ref l),some (.int d),some (.int w),none,none,none,none] G;exists a7J;intro p hp;exists a5F;have gv:=aaG (d:=d) (st:=st) (L:=L) (w:=w) len nn w0;have ga:=fun (k:Nat) q l=>alA (d:=d) (st:=st) (L:=L) (w:=w) (k:=k) (q:=q) (l:=l);generalize gvs d st L w=gs at *;have lg:L.length=gs.length:=by rw [len,gv.len]
 have npl:p≠l:=fun z=>by rw [z,hl] at hp;cases hp
 refine L11.akS (qK (fun u e=>bA e hp) hs) ?_;refine L11.akT (fun k ρ G'=>∃ r5 r6 r7,ρ=[some (.ref s),some (.ref l),some (.int d),some (.int (w - (gs.take k).sum)),some (.ref p),r5,r6,r7]/\G' p=some (.lst ((prs (gs.take k) 0).map prN))/\G' l=some (.lst ((LLk L gs k).map D.int))/\∀ q u,q≠l->G q=some u->G' q=some u) ⟨none,none,none,by rw [show (gs.take 0).sum=0 from rfl,Int.sub_zero],by rw [aJ];rfl,bA (by rw [hl];simp [LLk]) hp,fun q u _ e=>bA e hp⟩ (fun k ρ G' z=>z.elim fun _ z=>z.elim fun _ z=>z.elim fun _ z=>qK (fun u e=>z.2.2.2 s u hsl e) hs) (fun k x ρ G' e z=>?_) fun ρ G' z=>?_
 ·obtain ⟨_,_,_,rfl,z1,z2,z3⟩:=z;obtain ⟨⟨u,v⟩,e2,rfl⟩:=aeO e;have hk:=(cj.mp e2).1;obtain ⟨lk,e3⟩:∃ lk,L[k]?=some lk:=⟨_,dj (by omega)⟩;have e4:=ga k _ _ e2 e3;have et:gs.take (k+1)=gs.take k++[gr d (u,v) lk (w - (gs.take k).sum)]:=by rw [yu,e4];rfl
  have es:(gs.take (k+1)).sum=(gs.take k).sum+gr d (u,v) lk (w - (gs.take k).sum):=by rw [et,yd];simp
  have g0:=gv.nn _ (iw e4);have tl:(gs.take k).length=k:=by rw [qx];omega
  have ix:rJ ((LLk L gs k).map D.int) (k:Int)=some (.int lk):=by rw [iC,gw,alB lg (by omega),e3];rfl
  have psn:prs (gs.take (k+1)) 0=prs (gs.take k) 0++if 0 < gr d (u,v) lk (w - (gs.take k).sum) then [(k,gr d (u,v) lk (w - (gs.take k).sum))] else []:=by
   rw [et,aaI,tl,jk]
  have LS:=apU (k:=k) lg e3 e4;have LM:=alC (k:=k) lg e3 e4;unfold cG;rw [sY rfl];have gll:(LLk L gs k)[k]?=some lk:=by rw [alB lg (by omega),e3]
  have pll:((prs (gs.take k) 0).map prN).length < 2000:=by
   rw [bx,wZ];have:uR (gs.take k)<=(gs.take k).length:=yx;omega
  have fin:∀ {F:cH} (g:Int),g=gr d (u,v) lk (w - (gs.take k).sum)->(∀ ρ G',(∃ r5 r6 r7,ρ=[some (.ref s),some (.ref l),some (.int d),some (.int (w - (gs.take (k+1)).sum)),some (.ref p),r5,r6,r7]/\G' p=some (.lst ((prs (gs.take (k+1)) 0).map prN))/\G' l=some (.lst ((LLk L gs (k+1)).map D.int))/\∀ q u,q≠l->G q=some u->G' q=some u)->F.nx ρ G')->jZ K A (fun x=>gW EX) F [some (.ref s),some (.ref l),some (.int d),some (.int (w - (gs.take k).sum)),some (.ref p),some (.int (k:Int)),some (.tup [.int u,.int v]),some (.int g)] G':=fun {F} g eg hF=>by
   rw [← eg] at g0 psn LS LM es;refine aaJ z1 z2 npl pll gll g0 (fun c=>hF _ _ ⟨_,_,_,by rw [es,← Int.sub_sub],?_,?_,fun q u n e=>?_⟩) fun c=>hF _ _ ⟨_,_,_,by rw [es,c,a0x],?_,?_,z3⟩
   ·rw [bJ npl,aJ,psn,if_pos c,iy];rfl
   ·rw [aJ,LS]
   ·rw [bJ n];by_cases m:q=p
    ·subst m;rw [hp] at e;cases e
    ·rw [bJ m];exact z3 q u n e
   ·rw [psn,if_neg (by omega),um];exact z1
   ·rw [← LM c];exact z2
  exists a2H;refine c7 (fun c=>?_) fun c=>?_
  ·have c:d<=u:=by simpa using c
   rw [jD (aF z2) ix];walk_at "wr";exact fin _ (by unfold gr;rw [if_pos c]) fun ρ G' q=>q
  ·have c:¬ d<=u:=by simpa using c
   exact fin _ (by unfold gr;rw [if_neg c]) fun ρ G' q=>q
 ·obtain ⟨_,_,_,rfl,z1,z2,z3⟩:=z;exists a5E;rw [bx,vd (by rw [gv.len];omega)] at z1;rw [bx,show LLk L gs st.length=jE L gs by unfold LLk;rw [vd (by rw [gv.apT];omega),List.drop_of_length_le (by omega),um]] at z2;exact bQ.here (h p G' z3 npl hp z2 z1)
noncomputable def a0B (as:List (Int×Int)):List Int:=as.map fun q=>- q.1
noncomputable def dM (as:List (Int×Int)):List Nat:=(iU (fun i=>(a0B as).getD i 0) as.length).toList
noncomputable def fJ (st:List (Int×Int)):List Int:=st.map fun q=>q.2
noncomputable def fK (r:Row):D := .tup [.int (r.1:Int),.int (r.2.1:Int),.int r.2.2]
noncomputable def mW (r:Row):Int:=(r.1:Int) * 1000+(r.2.1:Int)
def Good (st as:List (Int×Int)) (rs:List Row):Prop:=rs.Pairwise (fun r r'=>mW r < mW r')/\rs.Perm (rows st as (dM as) (fJ st))
theorem aC2 {i:Nat} {z:Int×Int} (hq:aL G q=some (as.map cG)) (hi:as[i]?=some z) (h:R (.int (- z.1)) G):eU K A [.ref q,.int (i:Int)] G R EX:=by
 refine ⟨rfl,?_⟩;show kJ K A _ [some (.ref q),some (.int (i:Int))] G R;exists kJ;rw [jD hq (show rJ (as.map cG) (i:Int)=some (cG z) by rw [iC,gw,hi];rfl)];unfold cG;walk_at "wr";exact h
theorem alD {n i:Nat} (h:i < n):(vV n).getD i .non = .int (i:Int):=by
 unfold vV;simp [iz,h]
variable {mU:List Row}
theorem alE {s:Addr} {st:List (Int×Int)} {a:Nat} (hs:aL G s=some (st.map cG)) (hq:aL G q=some (as.map cG)) (hl:G l=some (.lst (L.map D.int))) (hp:G p=some (.lst (mU.map fK))) (npl:p≠l) (nsl:s≠l) (nql:q≠l) (ha:a < as.length) (pa:Pos as) (len:L.length=st.length) (nn:NN L) (ls:st.length < 1000) (rl:mU.length < 2000)
  (h:∀ r5 G',G' l=some (.lst ((jE L (gvs (dD as a).1 st L (dD as a).2)).map D.int))->G' p=some (.lst ((mU++pJ a (gvs (dD as a).1 st L (dD as a).2)).map fK))->(∀ z u,z≠l->z≠p->G z=some u->G' z=some u)->F.nx [some (.ref s),some (.ref q),some (.ref l),some (.ref p),some (.int (a:Int)),r5] G') :
  tO K A ex F [some (.ref s),some (.ref q),some (.ref l),some (.ref p),some (.int (a:Int)),r5] G:=by
 have big:10000 < sizeLine:=by decide
 have e1:as[a]?=some (dD as a):=by unfold dD;simp [iz,ha]
 have ix:rJ (as.map cG) (a:Int)=some (cG (dD as a)):=by rw [iC,gw,e1];rfl
 exists tO,jD hq ix;refine apV hs hl len nn (a2U pa a) ls nsl fun r G1 k1 nrl hr e2 e3=>?_;have gv:=aaG (d:=(dD as a).1) (st:=st) (L:=L) (w:=(dD as a).2) len nn (a2U pa a);exists xU;generalize gvs (dD as a).1 st L (dD as a).2=gs at *;have hp1:G1 p=some (.lst (mU.map fK)):=k1 p _ npl hp
 have pl:(prs gs 0).length < 1000:=by
  rw [wZ];have:uR gs<=gs.length:=yx;have:=gv.len;omega
 refine ⟨by rw [jX,aF hp1];rfl,?_⟩;rw [oY (aF e3)];refine xE (fun d=>match d with | .tup xs=>xs | _=>[]) (fun _=>true) (fun d=>match d with | .tup [x,y] => .tup [.int (a:Int),x,y] | _ => .non) (by show ((prs gs 0).map prN).length < _;rw [bx];omega) (aF e3) (fun d hd=>?_) (fun d hd G' l' Q h=>h G' (.refl _)) (fun d hd _ G' l' Q h=>?_) fun x hx=>?_
 ·obtain ⟨z,_,rfl⟩:=kh.mp hd;rfl
 ·obtain ⟨z,_,rfl⟩:=kh.mp hd;show fL _ [some (.int (z.1:Int)),some (.int z.2),some (.ref s),some (.ref q),some (.ref l),some (.ref p),some (.int (a:Int)),some (.ref r)] G' Q;walk_at "wr";exact h G' (.refl _)
 ·have ei:(((Src.lst r ((prs gs 0).map prN)).items.filter fun _=>true).map fun d=>match d with | .tup [x,y] => .tup [.int (a:Int),x,y] | _ => .non)=(pJ a gs).map fK:=by
   rw [wu.mpr fun _ _=>rfl];show (((prs gs 0).map prN).map _)=_;unfold pJ;rw [ud,ud];rfl
  rw [ei];rw [akO (bA hp1 hx) aJ (by rw [bx,bx];unfold pJ;rw [bx];omega)];have nx:x≠l:=fun z=>by rw [z,e2] at hx;cases hx
  have nxp:x≠p:=fun z=>by rw [z,hp1] at hx;cases hx
  refine h _ _ ?_ ?_ fun z u n1 n2 e=>?_
  ·rw [bJ (Ne.symm npl)];exact bA e2 hx
  ·rw [aJ,iy]
  ·rw [bJ n2];exact bA (k1 z u n1 e) hx
variable {r r':Row}
theorem aeT (h1:r.2.1 < 1000) (h2:r'.2.1 < 1000) (h:mW r=mW r'):r.1=r'.1/\r.2.1=r'.2.1:=by
 unfold mW at h;omega
noncomputable def apW (r:Row):List Int:=[(r.1:Int),(r.2.1:Int),r.2.2]
theorem apY (h1:r.2.1 < 1000) (h2:r'.2.1 < 1000) (hne:r.1=r'.1->r.2.1=r'.2.1->r=r'):HT.lexLt (apW r) (apW r')=decide (mW r < mW r'):=by
 unfold apW mW;rw [HT.pN];split
 ·rename_i c;rw [HT.pN];split
  ·rename_i c2;have:r=r':=hne (by omega) (by omega);subst this;rw [HT.pN,if_pos rfl];symm;simp [HT.lexLt]
  ·rename_i c2;rw [decide_eq_decide];omega
 ·rw [decide_eq_decide];omega
theorem apZ (hp:G p=some (.lst (mU.map fK))) (hk:∀ r∈mU,r.2.1 < 1000) (nd:(mU.map fun r=>(r.1,r.2.1)).Nodup) (hl:mU.length < 128)
  (h:∀ (rs:List Row) (r:Addr),rs.Pairwise (fun r r'=>mW r < mW r')->rs.Perm mU->G r=none->R (.ref r) (aG G r (.lst (rs.map fK)))):pW [.ref p] G R:=by
 have ndk:∀ (i j:Nat) (r r':Row),mU[i]?=some r->mU[j]?=some r'->r.1=r'.1->r.2.1=r'.2.1->i=j:=fun i j r r' e1 e2 a b=>by
  have f1:(mU.map fun r=>(r.1,r.2.1))[i]?=some (r.1,r.2.1):=by rw [gw,e1];rfl
  have f2:(mU.map fun r=>(r.1,r.2.1))[j]?=some (r.1,r.2.1):=by rw [gw,e2,a,b];rfl
  exact (List.getElem?_inj (cj.mp f1).1 nd).mp (f1.trans f2.symm)
 have agE:∀ i,i < mU.length->mU[i]?=some (mU.getD i (0,0,0)):=fun i hi=>by simp [iz,hi]
 refine L13.akW (aF hp) ⟨mU.map apW,fun i=>mW (mU.getD i (0,0,0)),?_,?_,?_,?_,by rw [bx];exact hl,?_⟩
 ·rw [ud];rfl
 ·intro r hr;obtain ⟨z,_,rfl⟩:=kh.mp hr;exact fun z=>nomatch z
 ·intro i j a b e1 e2;rw [gw] at e1 e2;cases f1:mU[i]? with
  | none=>rw [f1] at e1;cases e1
  | some r =>
   cases f2:mU[j]? with
   | none=>rw [f2] at e2;cases e2
   | some r' =>
    rw [f1] at e1;rw [f2] at e2;cases e1;cases e2;show _=decide (mW (mU.getD i (0,0,0)) < mW (mU.getD j (0,0,0)));rw [show mU.getD i (0,0,0)=r by simp [iz,f1],show mU.getD j (0,0,0)=r' by simp [iz,f2]];refine apY (hk r (iw f1)) (hk r' (iw f2)) fun a b=>?_;have:=ndk i j r r' f1 f2 a b;subst this;rw [f1] at f2;cases f2;rfl
 ·intro i j hi hj e;rw [bx] at hi hj;have e1:=agE i hi;have e2:=agE j hj;obtain ⟨a,b⟩:=aeT (hk _ (iw e1)) (hk _ (iw e2)) e;exact ndk i j _ _ e1 e2 a b
 ·intro q PM U r hr;rw [bx] at PM U;have hin:∀ i∈q.toList,i < mU.length:=fun i hi=>ji.mp (PM.perm.mem_iff.mp hi)
  have el:(q.toList.map fun i=>(mU.map fK).getD i .non)=(q.toList.map fun i=>mU.getD i (0,0,0)).map fK:=by
   rw [ud];refine List.map_congr_left fun i hi=>?_;have:=hin i hi;simp [iz,this]
  rw [el];refine h _ r ?_ ?_ hr
  ·rw [List.pairwise_map,qw];intro i j hi hj hij;have hi':i < q.size:=by simpa using hi
   have hj':j < q.size:=by simpa using hj
   have u:=U i j (by omega) (by rw [← PM.size];exact hj');unfold ky at u;have g1:q.getD i 0=q.toList[i]:=by simp [qb,hi']
   have g2:q.getD j 0=q.toList[j]:=by simp [qb,hj']
   rw [g1,g2] at u;rcases Int.lt_or_eq_of_le u with z | z
   ·exact z
   ·exfalso;have m1:=hin _ (uz hi);have m2:=hin _ (uz hj);obtain ⟨a,b⟩:=aeT (hk _ (iw (agE _ m1))) (hk _ (iw (agE _ m2))) z;have e:=ndk _ _ _ _ (agE _ m1) (agE _ m2) a b;have:=PM.inj (i:=i) (j:=j) (by rw [← PM.size];exact hi') (by rw [← PM.size];exact hj') (by rw [g1,g2];exact e);omega
  ·have e0:mU=(dh mU.length).map fun i=>mU.getD i (0,0,0):=by
    apply ux (by simp);intro i h1 h2;simp [iz,h1]
   conv=>rhs;rw [e0]
   exact PM.perm.map _
theorem a2V {d:Int}:∀ st:List (Int×Int),avail d st (fJ st)=gP d st
 | []=>rfl
 | q :: st=>by
  have ih:=a2V (d:=d) st;show (if d<=q.1 then q.2 else 0)+avail d st (fJ st)=_;rw [ih,show q :: st=[q]++st from rfl,a5I,a5J]
theorem aeU {st:List (Int×Int)} (h:Pos st):NN (fJ st):=fun l hl=>by
 obtain ⟨q,hq,rfl⟩:=kh.mp hl;have:=h q hq;omega
theorem agF (PM:Pm as.length (iU (fun i=>(a0B as).getD i 0) as.length)) (U:Up (fun i=>(a0B as).getD i 0) (iU (fun i=>(a0B as).getD i 0) as.length) as.length):(dM as).Perm (dh as.length)/\(dM as).Pairwise fun a b=>(dD as b).1<=(dD as a).1:=by
 refine ⟨PM.perm,?_⟩
 have hk:∀ i,i < as.length->(a0B as).getD i 0=- (dD as i).1:=fun i hi=>by
  unfold a0B dD;simp [iz,hi]
 have hin:∀ i∈dM as,i < as.length:=fun i hi=>ji.mp (PM.perm.mem_iff.mp hi);rw [qw];intro i j hi hj hij;have aFV:=hin _ (uz hi);have aFW:=hin _ (uz hj);unfold dM at *;generalize iU (fun i=>(a0B as).getD i 0) as.length=q at *;have hi':i < q.size:=by simpa using hi
 have hj':j < q.size:=by simpa using hj
 have u:=U i j (by omega) (by rw [← PM.size];exact hj');have u:(a0B as).getD (q.getD i 0) 0<=(a0B as).getD (q.getD j 0) 0:=u;rw [show q.getD i 0=q.toList[i] by simp [qb,hi'],show q.getD j 0=q.toList[j] by simp [qb,hj'],hk _ aFV,hk _ aFW] at u;omega
theorem a2W {s:Addr} {st:List (Int×Int)} (hs:aL G s=some (st.map cG)) (hq:aL G q=some (as.map cG)) (ls:st.length<=24) (la:as.length<=50) (ps:Pos st) (pa:Pos as) (hT:G A.dJ=some (GO.tab bL.qual bL.pos))
  (h:∀ o G',Le G G'->cW st as as o->match o with
   | some _=>R .non G'
   | none=>∀ rs r,Good st as rs->Sh st as (dM as) (fJ st) (rows st as (dM as) (fJ st))->(dM as).Perm (dh as.length)->G r=none->∀ G2,Le G G2->G2 r=some (.lst (rs.map fK))->R (.ref r) G2):lJ K A [.ref s,.ref q] G R EX:=by
 have big:10000 < sizeLine:=by decide
 refine ⟨rfl,?_⟩;show xV K A _ _ [some (.ref s),some (.ref q),none,none,none,none] G;exists xV,zY;refine wC hs hq (by omega) (by omega) fun o G1 l1 so=>?_;have h:=h o G1 l1 so;walk_at "wr";cases o with
 | some d =>
  walk_at "wr";exact bQ.here h
 | none =>
  exists xT;rw [if_neg (by decide),oY (aY l1 hs)];refine yG (fun _ _=>true) (fun _ v=>v) (aY l1 hs) (by omega) (fun u v G' l Q h=>h G' (.refl _)) (fun u v G' l Q h=>h G' (.refl _)) fun l hl=>?_;have ea:((st.filter fun q=>(fun _ _=>true) q.1 q.2).map fun q=>(fun _ v=>v) q.1 q.2)=fJ st:=by rw [wu.mpr fun _ _=>rfl];rfl
  rw [ea];exists xR;intro p hp;have npl:p≠l:=fun z=>by rw [z,aJ] at hp;cases hp
  have l3:Le G (aG (aG G1 l (.lst ((fJ st).map D.int))) p (.lst [])):=l1.trans ((Le.new hl).trans (.new hp));have gl:aG (aG G1 l (.lst ((fJ st).map D.int))) p (.lst []) l=some (.lst ((fJ st).map D.int)):=bA aJ hp;have gp:aG (aG G1 l (.lst ((fJ st).map D.int))) p (.lst []) p=some (.lst []):=aJ
  have hl0:G l=none:=by
   cases e:G l with
   | none=>rfl
   | some u=>rw [l1 _ _ e] at hl;cases hl
  have hp0:G p=none:=by
   cases e:G p with
   | none=>rfl
   | some u=>rw [bA (l1 _ _ e) hl] at hp;cases hp
  generalize aG (aG G1 l (.lst ((fJ st).map D.int))) p (.lst [])=G3 at *;exists cB (aY l3 hq);refine ⟨as.length,.ref q,rfl,by omega,rfl,l3 _ _ hT,?_⟩;have rl:(vV as.length).length=as.length:=by unfold vV;simp
  refine L13.aeB (fun d=>match d with | .int i => .int (- (dD as i.toNat).1) | _ => .non) _ _ _ (fun d hd G' l' R' h'=>?_) fun G4 l4=>?_
  ·unfold vV at hd;obtain ⟨i,hi,rfl⟩:=kh.mp hd;have hi:=ji.mp hi;refine aC2 (aY (l3.trans l') hq) (show as[i]?=some (dD as i) by unfold dD;simp [iz,hi]) ?_;have:=h' G' (.refl _);simpa using this
  ·refine ⟨a0B as,?_,fun PM U r hr=>?_⟩
   ·rw [a0u];unfold a0B vV;apply ux (by simp);intro i h1 h2;have:i < as.length:=by simpa using h1
    simp [dD,iz,this]
   ·rw [rl] at PM U ⊢;obtain ⟨opm,odn⟩:=agF PM U;have oin:∀ i∈dM as,i < as.length:=fun i hi=>ji.mp (opm.mem_iff.mp hi);have eo:((iU (fun i=>(a0B as).getD i 0) as.length).toList.map fun i=>(vV as.length).getD i .non)=(dM as).map fun i:Nat=>D.int (i:Int):=List.map_congr_left fun i hi=>alD (oin i hi);rw [eo,oZ dI];have sh:=arP rfl pa so opm odn (dM as) [] (fJ st) rfl (by unfold fJ;simp) (aeU ps) fun d _=>by rw [a2V];simp [wsum]
    have l5:Le G3 (aG G4 r (.lst ((dM as).map fun i:Nat=>D.int (i:Int)))):=l4.trans (.new hr);have gr5:aG G4 r (.lst ((dM as).map fun i:Nat=>D.int (i:Int))) r=some (.lst ((dM as).map fun i:Nat=>D.int (i:Int))):=aJ;have nrl:r≠l:=fun z=>by rw [z,l4 _ _ gl] at hr;cases hr
    have nrp:r≠p:=fun z=>by rw [z,l4 _ _ gp] at hr;cases hr
    generalize aG G4 r (.lst ((dM as).map fun i:Nat=>D.int (i:Int)))=G5 at *;have lf:Le G G5:=l3.trans l5;have nsl:s≠l:=fun z=>by rw [z] at hs;unfold aL at hs;rw [hl0] at hs;cases hs
    have nsp:s≠p:=fun z=>by rw [z] at hs;unfold aL at hs;rw [hp0] at hs;cases hs
    have nql:q≠l:=fun z=>by rw [z] at hq;unfold aL at hq;rw [hl0] at hq;cases hq
    have nqp:q≠p:=fun z=>by rw [z] at hq;unfold aL at hq;rw [hp0] at hq;cases hq
    have pc:uR (fJ st)<=24:=by
     have:uR (fJ st)<=(fJ st).length:=yx;have e:(fJ st).length=st.length:=by unfold fJ;simp
     omega
    have ol:(dM as).length=as.length:=by rw [opm.length_eq];simp
    have rc:=sh.cnt;refine sZ (fun k ρ G'=>∃ r4 r5 Lk mU,ρ=[some (.ref s),some (.ref q),some (.ref l),some (.ref p),r4,r5]/\G' l=some (.lst (Lk.map D.int))/\G' p=some (.lst (mU.map fK))/\(∀ z u,z≠l->z≠p->G5 z=some u->G' z=some u)/\rows st as (dM as) (fJ st)=mU++rows st as ((dM as).drop k) Lk/\Lk.length=st.length/\NN Lk) ⟨none,none,fJ st,[],rfl,l5 _ _ gl,l5 _ _ gp,fun z u _ _ e=>e,rfl,by unfold fJ;simp,aeU ps⟩ (fun k ρ G' z=>?_) (fun k x ρ G' e z=>?_) fun ρ G' z=>?_
    ·obtain ⟨_,_,Lk,mU,rfl,z1,z2,z3,z4,z5,z6⟩:=z;exact aF (z3 r _ nrl nrp gr5)
    ·obtain ⟨_,_,Lk,mU,rfl,z1,z2,z3,z4,z5,z6⟩:=z;rw [gw] at e;cases ek:(dM as)[k]? with
     | none=>rw [ek] at e;cases e
     | some a =>
      rw [ek] at e;cases e;have kl:=(cj.mp ek).1;have ed:(dM as).drop k=a :: (dM as).drop (k+1):=by rw [uh kl,(cj.mp ek).2]
      rw [ed] at z4
      have rl2:mU.length < 2000:=by
       have:=congrArg List.length z4;rw [mj] at this;omega
      walk_at "wr";refine alE (qK (fun u e=>z3 s u nsl nsp (lf _ _ e)) hs) (qK (fun u e=>z3 q u nql nqp (lf _ _ e)) hq) z1 z2 npl nsl nql (oin a (iw ek)) pa z5 z6 (by omega) rl2 fun r5 G6 y1 y2 y3=>?_;have gv:=aaG (d:=(dD as a).1) (st:=st) (L:=Lk) (w:=(dD as a).2) z5 z6 (a2U pa a);exact ⟨_,_,_,_,rfl,y1,y2,fun z u n1 n2 e=>y3 z u n1 n2 (z3 z u n1 n2 e),by rw [z4,jz];rfl,gv.apT,gv.left⟩
    ·obtain ⟨_,_,Lk,mU,rfl,z1,z2,z3,z4,z5,z6⟩:=z;rw [bx,List.drop_length,show rows st as [] Lk=[] from rfl,um] at z4;exists zZ;rw [z4] at sh rc;refine apZ z2 (fun r hr=>by have:=(sh.row r hr).2.1;omega) sh.nd (by omega) fun rs r2 pw pm hr2=>?_;have keep:∀ z u,G z=some u->G' z=some u:=fun z u e=>z3 z u (fun y=>by rw [y,hl0] at e;cases e) (fun y=>by rw [y,hp0] at e;cases e) (lf _ _ e);refine bQ.here (h rs r2 ⟨pw,by rw [z4];exact pm⟩ (by rw [z4];exact sh) opm ?_ _ (fun z u e=>bA (keep z u e) hr2) aJ);cases e:G r2 with
     | none=>rfl
     | some u=>rw [keep r2 u e] at hr2;cases hr2
structure Fit (st as:List (Int×Int)) (rs:List Row):Prop where
 row:∀ r∈rs,r.1 < as.length/\r.2.1 < st.length/\0 < r.2.2/\(dD as r.1).1<=(dD st r.2.1).1
 up:rs.Pairwise fun r r'=>mW r < mW r'
 ask:∀ a,a < as.length->uT a rs=(dD as a).2
 pl:∀ p,p < st.length->plS p rs<=(dD st p).2
noncomputable def mX (n:Nat) (rs:List Row):List Int:=(dh n).map fun a=>uT a rs
noncomputable def jP (n:Nat) (rs:List Row):List Int:=(dh n).map fun p=>plS p rs
theorem aaK {n:Nat}:(gq n [D.int 0]).flatten=(mX n []).map D.int:=by
 unfold mX;rw [ud]
 induction n with
 | zero=>rfl
 | succ n ih=>rw [List.replicate_succ',List.flatten_append,ih,List.range_succ,iy];rfl
theorem agG {n:Nat}:(gq n [D.int 0]).flatten=(jP n []).map D.int:=aaK
variable {rs:List Row}
theorem alF {n:Nat}:(mX n rs).set r.1 (uT r.1 rs+r.2.2)=mX n (rs++[r]):=by
 unfold mX;apply ux (by simp);intro i h1 h2;rw [List.getElem_set];simp only [List.getElem_map,List.getElem_range];rw [aaH];by_cases c:r.1=i
 ·rw [if_pos c,← c];simp [uT]
 ·rw [if_neg c,a5O (Z:=[r]) (fun z hz=>by rw [jt.mp hz];exact c),a0x]
theorem alG {p:Nat} (h:∀ r∈Z,r.2.1≠p):plS p Z=0:=by
 unfold plS;rw [vf.mpr fun r hr=>by simpa using h r hr];rfl
theorem agH {n:Nat}:(jP n rs).set r.2.1 (plS r.2.1 rs+r.2.2)=jP n (rs++[r]):=by
 unfold jP;apply ux (by simp);intro i h1 h2;rw [List.getElem_set];simp only [List.getElem_map,List.getElem_range];rw [aeQ];by_cases c:r.2.1=i
 ·rw [if_pos c,← c];simp [plS]
 ·rw [if_neg c,alG (Z:=[r]) (fun z hz=>by rw [jt.mp hz];exact c),a0x]
noncomputable def a02 (rs:List Row):List Int:=match rs.getLast? with
 | some r=>[(r.1:Int),(r.2.1:Int)]
 | none=>[-1,-1]
variable {pre:List Row}
theorem acB {w:Row} (hk:∀ z∈pre,z.2.1 < 1000) (hw:w.2.1 < 1000) (up:∀ z∈pre,mW z < mW w):HT.lexLe [(w.1:Int),(w.2.1:Int)] (a02 pre)=false:=by
 unfold a02;cases e:pre.getLast? with
 | none =>
  simp only [HT.lexLe];rw [if_neg (by omega)];simp
 | some z =>
  have hz:=List.mem_of_getLast? e;have h1:=up z hz;have h2:=hk z hz;unfold mW at h1;simp only [HT.lexLe];split
  ·split
   ·omega
   ·simp;omega
  ·simp;omega
theorem acC {s r hd gn:Addr} {st:List (Int×Int)} {w:Row} {r9:Option D} (hs:aL G s=some (st.map cG)) (hq:aL G q=some (as.map cG)) (h1:G hd=some (.lst ((mX as.length pre).map D.int))) (h2:G gn=some (.lst ((jP st.length pre).map D.int))) (ne:hd≠gn) (ls:st.length<=24)
  (hw:w.1 < as.length/\w.2.1 < st.length/\0 < w.2.2/\(dD as w.1).1<=(dD st w.2.1).1) (hk:∀ z∈pre,z.2.1 < 1000) (up:∀ z∈pre,mW z < mW w)
  (h:∀ r7 r8 r9 G',G' hd=some (.lst ((mX as.length (pre++[w])).map D.int))->G' gn=some (.lst ((jP st.length (pre++[w])).map D.int))->(∀ z u,z≠hd->z≠gn->G z=some u->G' z=some u)->F.nx [some (.ref s),some (.ref q),some (.ref r),some (.ref hd),some (.ref gn),some (.tup ((a02 (pre++[w])).map D.int)),some (.tup [.int (w.1:Int),.int (w.2.1:Int),.int w.2.2]),r7,r8,r9] G') :
  eF K A ex F [some (.ref s),some (.ref q),some (.ref r),some (.ref hd),some (.ref gn),some (.tup ((a02 pre).map D.int)),some (.tup [.int (w.1:Int),.int (w.2.1:Int),.int w.2.2]),r7,r8,r9] G:=by
 have big:10000 < sizeLine:=by decide
 exists eF;refine xE (fun d=>[d]) (fun _=>true) (fun _ => .bl true) (by show 3 < _;omega) trivial (fun d hd=>rfl) (fun d hd G' l Q h=>h G' (.refl _)) (fun d hd _ G' l Q h=>?_) fun x hx=>?_
 ·have:∃ i:Int,d = .int i:=by
   have hd:d∈[D.int (w.1:Int),D.int (w.2.1:Int),D.int w.2.2]:=hd;simp at hd;rcases hd with rfl | rfl | rfl <;> exact ⟨_,rfl⟩
  obtain ⟨i,rfl⟩:=this;simp only [jm,a0s,wg,a0u];walk_at "wr";exact apK (h G' (.refl _))
 intro p hp;have ei:((Src.imm [D.int (w.1:Int),D.int (w.2.1:Int),D.int w.2.2]).items.filter fun _=>true).map (fun _=>D.bl true)=[.bl true,.bl true,.bl true]:=rfl;rw [ei] at hp ⊢;rw [a2A (aY (.new hp) dI) dI rfl rfl];have l1:Le G (aG (aG G x (.lst [.bl true,.bl true,.bl true])) p (.lst [.bl true,.bl true,.bl true])):=(Le.new hx).trans (.new hp);generalize aG (aG G x (.lst [.bl true,.bl true,.bl true])) p (.lst [.bl true,.bl true,.bl true])=G1 at *;have eb:(!jU [D.bl true,D.bl true,D.bl true] [D.bl true,D.bl true,D.bl true])=false:=by decide
 rw [eb];exists gC;rw [sY rfl];have hs1:=aY l1 hs;have hq1:=aY l1 hq;exists gB,cB hs1,cB hq1;obtain ⟨w1,w2,w3,w4⟩:=hw;rw [if_pos (decide_eq_true (by omega)),if_neg (by simp;omega),if_pos (decide_eq_true (by omega)),if_neg (by simp;omega),if_neg (by simp;omega)];refine L13.aFQ (ns:=[(w.1:Int),(w.2.1:Int)]) (ms:=a02 pre) ?_;rw [acB hk (by omega) up];have ixs:rJ (st.map cG) (w.2.1:Int)=some (cG (dD st w.2.1)):=by rw [iC,gw,dj w2];unfold dD;simp [iz,w2]
 have ixa:rJ (as.map cG) (w.1:Int)=some (cG (dD as w.1)):=by rw [iC,gw,dj w1];unfold dD;simp [iz,w1]
 exists gA,jD hs1 ixs,jD hq1 ixa;rw [if_neg (by simp;omega)];have g1:=l1 _ _ h1;have g2:=l1 _ _ h2;have ixh:rJ ((mX as.length pre).map D.int) (w.1:Int)=some (.int (uT w.1 pre)):=by rw [iC,gw];unfold mX;simp [w1]
 exists fZ,a7E,jD (aF g1) ixh;rw [xF g1 (by omega) (by unfold mX;simp;omega),nj,← a0w,alF];have g3:aG G1 hd (.lst ((mX as.length (pre++[w])).map D.int)) gn=_:=(bJ (Ne.symm ne)).trans g2;have ixg:rJ ((jP st.length pre).map D.int) (w.2.1:Int)=some (.int (plS w.2.1 pre)):=by rw [iC,gw];unfold jP;simp [w2]
 exists fY,a7E,jD (aF g3) ixg;rw [xF g3 (by omega) (by unfold jP;simp;omega),nj,← a0w,agH];exists fX;have el:a02 (pre++[w])=[(w.1:Int),(w.2.1:Int)]:=by unfold a02;simp
 rw [el] at h;exact h _ _ _ _ ((bJ ne).trans aJ) aJ fun z u n1 n2 e=>by rw [bJ n2,bJ n1];exact l1 z u e
theorem aq0 {s r:Addr} {st:List (Int×Int)} (hs:aL G s=some (st.map cG)) (hq:aL G q=some (as.map cG)) (hr:aL G r=some (rs.map fK)) (ls:st.length<=24) (la:as.length<=50) (F:Fit st as rs) (h:∀ G',Le G G'->R (.bl true) G'):dH K A [.ref s,.ref q,.ref r] G R EX:=by
 have big:10000 < sizeLine:=by decide
 refine ⟨rfl,?_⟩;show gF K A _ _ [some (.ref s),some (.ref q),some (.ref r),none,none,none,none,none,none,none] G;exists gF,cB hq;intro p0 hp0;have hq1:=aY (.new (o := .lst [.int 0]) hp0) hq;exists cB hq1;refine L13.arK aJ (by omega) (by omega) (by simp;omega) fun hd hhd=>?_;rw [nj,aaK];have l1:Le G (aG (aG G p0 (.lst [.int 0])) hd (.lst ((mX as.length []).map D.int))):=(Le.new hp0).trans (.new hhd);have g1:aG (aG G p0 (.lst [.int 0])) hd (.lst ((mX as.length []).map D.int)) hd=some (.lst ((mX as.length []).map D.int)):=aJ
 have hd0:G hd=none:=by
  cases e:G hd with
  | none=>rfl
  | some u=>rw [bA e hp0] at hhd;cases hhd
 generalize aG (aG G p0 (.lst [.int 0])) hd (.lst ((mX as.length []).map D.int))=G1 at *;have hs1:=aY l1 hs;exists jO,cB hs1;intro p1 hp1;exists cB (aY (.new (o := .lst [.int 0]) hp1) hs1);refine L13.arK aJ (by omega) (by omega) (by simp;omega) fun gn hgn=>?_;rw [nj,agG];have l2:Le G1 (aG (aG G1 p1 (.lst [.int 0])) gn (.lst ((jP st.length []).map D.int))):=(Le.new hp1).trans (.new hgn);have g2:aG (aG G1 p1 (.lst [.int 0])) gn (.lst ((jP st.length []).map D.int)) gn=some (.lst ((jP st.length []).map D.int)):=aJ
 have gn1:G1 gn=none:=by
  cases e:G1 gn with
  | none=>rfl
  | some u=>rw [bA e hp1] at hgn;cases hgn
 have gn0:G gn=none:=by
  cases e:G gn with
  | none=>rfl
  | some u=>rw [l1 _ _ e] at gn1;cases gn1
 have ne:hd≠gn:=fun z=>by rw [← z,g1] at gn1;cases gn1
 generalize aG (aG G1 p1 (.lst [.int 0])) gn (.lst ((jP st.length []).map D.int))=G2 at *;have l:=l1.trans l2;have kp:∀ (z:Addr) (xs:List D),aL G z=some xs->z≠hd/\z≠gn:=fun z xs e=>⟨(fun y=>by rw [y] at e;unfold aL at e;rw [hd0] at e;cases e),(fun y=>by rw [y] at e;unfold aL at e;rw [gn0] at e;cases e)⟩;exists jN,jM;rw [oZ (aY l hr)];refine sZ (fun k ρ G'=>∃ r6 r7 r8 r9,ρ=[some (.ref s),some (.ref q),some (.ref r),some (.ref hd),some (.ref gn),some (.tup ((a02 (rs.take k)).map D.int)),r6,r7,r8,r9]/\G' hd=some (.lst ((mX as.length (rs.take k)).map D.int))/\G' gn=some (.lst ((jP st.length (rs.take k)).map D.int))/\∀ z u,z≠hd->z≠gn->G z=some u->G' z=some u) ⟨none,none,none,none,rfl,l2 _ _ g1,g2,fun z u _ _ e=>l _ _ e⟩ (fun k ρ G' z=>?_) (fun k x ρ G' e z=>?_) fun ρ G' z=>?_
 ·obtain ⟨_,_,_,_,rfl,z1,z2,z3⟩:=z;exact qK (fun u e=>z3 r u (kp r _ hr).1 (kp r _ hr).2 e) hr
 ·obtain ⟨_,_,_,_,rfl,z1,z2,z3⟩:=z;rw [gw] at e;cases ek:rs[k]? with
  | none=>rw [ek] at e;cases e
  | some w =>
   rw [ek] at e;cases e;have et:=take_one ek
   have upw:∀ z∈rs.take k,mW z < mW w:=fun z hz=>by
    have:=F.up;rw [← uf (k+1) rs,jw,et,jw] at this;exact this.1.2.2 z hz w (by simp)
   walk_at "wr";refine acC (qK (fun u e=>z3 s u (kp s _ hs).1 (kp s _ hs).2 e) hs) (qK (fun u e=>z3 q u (kp q _ hq).1 (kp q _ hq).2 e) hq) z1 z2 ne ls (F.row w (iw ek)) (fun z hz=>by have:=(F.row z (List.mem_of_mem_take hz)).2.1;omega) upw fun r7 r8 r9 G6 y1 y2 y3=>?_;rw [← et] at y1 y2 ⊢;exact ⟨_,_,_,_,rfl,y1,y2,fun z u n1 n2 e=>y3 z u n1 n2 (z3 z u n1 n2 e)⟩
 ·obtain ⟨_,_,_,_,rfl,z1,z2,z3⟩:=z;rw [bx,uw] at z1 z2;have lf:Le G G':=fun z u e=>z3 z u (fun y=>by rw [y,hd0] at e;cases e) (fun y=>by rw [y,gn0] at e;cases e) e;have hq3:=aY lf hq;have hs3:=aY lf hs;exists jL;rw [oY hq3];refine yG (fun _ _=>true) (fun _ v=>v) hq3 (by omega) (fun u v G' l Q h=>h G' (.refl _)) (fun u v G' l Q h=>h G' (.refl _)) fun x hx=>?_
  have ea:((as.filter fun q=>(fun _ _=>true) q.1 q.2).map fun q=>(fun _ v=>v) q.1 q.2)=mX as.length rs:=by
   rw [wu.mpr fun _ _=>rfl];unfold mX;apply ux (by simp);intro i h1 h2;have hi:i < as.length:=by simpa using h1
   simp only [List.getElem_map,List.getElem_range];rw [F.ask i hi];unfold dD;simp [iz,hi]
  rw [ea]
  have shi:((mX as.length rs).map D.int).all (aP 20)=true:=by
   rw [gj];intro d hd;obtain ⟨i,_,rfl⟩:=kh.mp hd;rfl
  rw [a2A (aF (bA z1 hx)) dI shi shi,lG fun d hd=>gj.mp shi d hd];have z2':=bA (o := .lst ((mX as.length rs).map D.int)) z2 hx;have lf2:Le G (aG G' x (.lst ((mX as.length rs).map D.int))):=lf.trans (.new hx);generalize aG G' x (.lst ((mX as.length rs).map D.int))=G6 at *;have hs6:=aY lf2 hs;exists jK,cB hs6;refine xE (fun d=>[d]) (fun _=>false) (fun d=>d) (by show (vQ 0 (st.length:Int)).length < _;unfold vQ;simp;omega) trivial (fun d hd=>rfl) (fun d hd G7 l7 Q h'=>?_) (fun d hd c=>absurd c (by decide)) fun y hy=>?_
  ·have hd:d∈vQ 0 (st.length:Int):=hd;unfold vQ at hd;obtain ⟨i,hi,rfl⟩:=kh.mp hd;have hi:i < st.length:=by have:=ji.mp hi;omega
   rw [Int.zero_add];have ixg:rJ ((jP st.length rs).map D.int) (i:Int)=some (.int (plS i rs)):=by rw [iC,gw];unfold jP;simp [hi]
   have ixs:rJ (st.map cG) (i:Int)=some (cG (dD st i)):=by rw [iC,gw,dj hi];unfold dD;simp [iz,hi]
   have pli:=F.pl i hi;simp only [jm,a0s,wg,a0u];walk_at "wr";rw [jD (aF (l7 _ _ z2')) ixg];walk_at "wr";rw [jD (aY l7 hs6) ixs];walk_at "wr";rw [decide_eq_false (show ¬ (dD st i).2 < plS i rs by omega)];exact h' G7 (.refl _)
  ·intro p hp;have ef:((Src.imm (vQ 0 (st.length:Int))).items.filter fun _=>false).map (fun d=>d)=[]:=by rw [vf.mpr fun _ _=>by decide];rfl
   rw [ef] at hp ⊢;rw [vW (aY (.new hp) dI) dI rfl rfl];exact bQ.here (h _ (lf2.trans ((Le.new hy).trans (.new hp))))
theorem a2X:∀ (xs:List (Int×Int)) {n:Nat},2<=n->(xs.map cG).all (aP n)=true
 | [],_,_=>rfl
 | q :: r,n,h=>by
  rw [jm,qz,a2X r h];obtain ⟨m,rfl⟩:∃ m,n=m+2:=⟨n - 2,by omega⟩;rfl
theorem alH {xs:List (Int×Int)}:jU (xs.map cG) (xs.map cG)=true:=lG (n:=2) fun x hx=>gj.mp (a2X xs (by omega)) x hx
theorem axB {r s:Addr} {xs ys:List (Int×Int)} (h1:aL G p=some (xs.map cG)) (h2:aL G q=some (ys.map cG)) (h3:aL G r=some (xs.map cG)) (h4:aL G s=some (ys.map cG)):a6P G [.ref p,.ref q] [.ref r,.ref s]=true:=by
 simp only [a6P,ok2,h1,h2,h3,h4,a2X _ (show 2<=17 by omega)];rfl
theorem axC {r s:Addr} {xs ys:List (Int×Int)} (h1:aL G p=some (xs.map cG)) (h2:aL G q=some (ys.map cG)) (h3:aL G r=some (xs.map cG)) (h4:aL G s=some (ys.map cG)):vU G [.ref p,.ref q] [.ref r,.ref s]=true:=by
 simp only [vU,eq2,h1,h2,h3,h4,alH];rfl
theorem axD {st:List (Int×Int)} (g:Good st as rs) (s:Sh st as (dM as) (fJ st) (rows st as (dM as) (fJ st))) (pm:(dM as).Perm (dh as.length)):Fit st as rs:=by
 obtain ⟨up,p⟩:=g;refine ⟨fun r hr=>?_,up,fun a ha=>?_,fun q hq=>?_⟩
 ·obtain ⟨h1,h2⟩:=s.row r (p.mem_iff.mp hr);exact ⟨ji.mp (pm.mem_iff.mp h1),h2⟩
 ·rw [agC p];exact s.ask a (pm.mem_iff.mpr (ji.mpr ha))
 ·rw [al7 p];have:=s.pl q hq;rw [show (fJ st).getD q 0=(dD st q).2 by unfold fJ dD;simp [iz,hq]] at this;exact this
theorem alI {st:List (Int×Int)} {rs':List Row} (g:Good st as rs) (g':Good st as rs'):rs=rs':=by
 have pm:rs.Perm rs':=g.2.trans g'.2.symm;have u:=g.1;have u':=g'.1;clear g g'
 induction rs generalizing rs' with
 | nil=>exact (List.nil_perm.mp pm).symm
 | cons r rs ih =>
  cases rs' with
  | nil=>exact absurd pm (by simp)
  | cons r' rs' =>
   rw [List.pairwise_cons] at u u'
   have:r=r':=by
    rcases jc.mp (pm.mem_iff.mp (jj ..)) with e | h1
    ·exact e
    ·rcases jc.mp (pm.mem_iff.mpr (jj ..)) with e | h2
     ·exact e.symm
     ·have a:=u'.1 r h1;have b:=u.1 r' h2;omega
   subst this;rw [ih (List.perm_cons _ |>.mp pm) u.2 u'.2]
theorem alJ {st:List (Int×Int)} {o:Option Int} (hp:aL G p=some (st.map cG)) (hq:aL G q=some (as.map cG)) (ls:st.length < 1000) (la:as.length < 1000) (so:cW st as as o) (h:∀ G',Le G G'->R (.bl true) G'):gG K A [.ref p,.ref q,oD o] G R EX:=by
 refine ⟨rfl,?_⟩;have h':∀ G',Le G G'->bQ R (.bl true) G':=fun G' l=>bQ.here (h G' l);show u6 K A _ _ [some (.ref p),some (.ref q),some (oD o)] G;exists u6;refine aaE hp hq ls la fun o2 G1 l1 s2=>?_;obtain rfl:=lK so s2;cases o with
 | none =>
  rw [show oD none = .non from rfl];walk_at "wr";rw [show ∀ R:dX,jV .non .non G1 R=R (.bl true) G1 from fun R=>by unfold jV eqG;simp [aP,eqP]];walk_at "wr";refine wC (aY l1 hp) (aY l1 hq) ls la fun o3 G2 l2 s3=>?_;obtain rfl:=lK so s3;walk_at "wr";exact h' _ (l1.trans l2)
 | some d =>
  rw [show oD (some d) = .int d from rfl];walk_at "wr";rw [beq_self_eq_true];walk_at "wr";refine wC (aY l1 hp) (aY l1 hq) ls la fun o3 G2 l2 s3=>?_;obtain rfl:=lK so s3;walk_at "wr";rw [arO];walk_at "wr";exact h' _ (l1.trans l2)
theorem lM (n:Nat) (h:2<=n):∀ rs:List Row,(rs.map fK).all (aP n)=true
 | []=>rfl
 | r :: rs=>by
  rw [jm,qz,lM n h rs];obtain ⟨m,rfl⟩:∃ m,n=m+2:=⟨n - 2,by omega⟩;rfl
theorem a5P:jU (rs.map fK) (rs.map fK)=true:=lG (n:=2) fun x hx=>gj.mp (lM 2 (by omega) rs) x hx
theorem axE {pr pk pg:Addr} {r0 r1 r2 r3 r4:Option D} (h1:aL G pg=some (rs.map fK)) (h2:G pk=some (.lst (rs.map fK))) (h3:aL G pr=some ((rs++[(0,0,1)]).map fK)) (rl:rs.length < 200) (h:∀ G',F.rt (.bl true) G'):a2O K A ex F [r0,r1,r2,r3,r4,some (.ref pr),some (.ref pk),some (.ref pg)] G:=by
 have big:10000 < sizeLine:=by decide
 exists a2O;rw [vW h1 (aF h2) (lM 20 (by omega) rs) (lM 20 (by omega) rs),a5P];walk_at "wr";intro x hx;rw [arI (bA h2 hx) aJ (by rw [bx];simp;omega)];intro y hy;have e:rs.map fK++[.tup [.int 0,.int 0,.int 1]]=(rs++[(0,0,1)]).map fK:=by rw [iy];rfl
 rw [e];rw [vW (aY ((Le.new hx).trans (.new hy)) h3) dI (lM 20 (by omega) _) (lM 20 (by omega) _),a5P];exact h _
theorem aC3 {a:Addr} (hG:G a=some (.rol (ns.map D.int))) (hT:G A.dJ=some (GO.tab bL.qual bL.pos)) (h:∀ G',R (.bl true) G'):a7S K A [.ref a] G R EX:=by
 have big:10000 < sizeLine:=by decide
 refine ⟨rfl,?_⟩;have h':∀ G',bQ R (.bl true) G':=fun G'=>bQ.here (h G');show akZ K A _ _ [some (.ref a),none,none,none,none,none,none,none] G;exists akZ;refine apL hG fun s st G1 l1 _ hs os ls=>?_;have hG1:=l1 _ _ hG;exists aeH;refine ax7 hG1 hs os ls fun q as G2 l2 _ hq oq lq=>?_;have hG2:=l2 _ _ hG1;have hs2:=l2 _ _ hs;exists aeG;refine apS (aF hs2) (aF hq) fun o so=>?_;exists aeF,a2B (aF hs2);intro p1 hp1;have l4:=Le.new (o := .lst (st.map cG)) hp1;exists a2B (aF (l4 _ _ hq));intro p2 hp2;have l5:=Le.new (o := .lst (as.map cG)) hp2;have h1:(aG (aG G2 p1 (.lst (st.map cG))) p2 (.lst (as.map cG))) p1=some (.lst (st.map cG)):=l5 _ _ aJ;have h2:(aG (aG G2 p1 (.lst (st.map cG))) p2 (.lst (as.map cG))) p2=some (.lst (as.map cG)):=aJ;have n12:p1≠p2:=awW aJ hp2;have hs5:=l5 _ _ (l4 _ _ hs2);have hq5:=l5 _ _ (l4 _ _ hq);have hG5:=l5 _ _ (l4 _ _ hG2);have hT5:=l5 _ _ (l4 _ _ (l2 _ _ (l1 _ _ hT)));generalize aG (aG G2 p1 (.lst (st.map cG))) p2 (.lst (as.map cG))=G5 at *
 have go:∀ G6,Le G5 G6->a7R K A (fun x=>gW EX) { nx:=fun x G'=>bQ R D.non G',rt:=bQ R,bk:=fun _ _=>False,ct:=fun _ _=>False } [some (.ref a),some (.ref s),some (.ref q),some (oD o),some (.tup [.ref p1,.ref p2]),none,none,none] G6:=fun G6 l6=>by
  have k1:=l6 _ _ h1;have k2:=l6 _ _ h2;have ks:=l6 _ _ hs5;have kq:=l6 _ _ hq5;have kT:=l6 _ _ hT5;clear l6 h1 h2 hs5 hq5 hT5 hG5;exists a7R;refine a2W (aF k1) (aF k2) ls lq os oq kT fun o2 G7 l7 s2=>?_;obtain rfl:=lK so s2
  have seven:∀ (x:D) (G8:Gp),Le G6 G8->(∀ G9,Le G8 G9->a0I K A (fun x=>gW EX) { nx:=fun x G'=>bQ R D.non G',rt:=bQ R,bk:=fun _ _=>False,ct:=fun _ _=>False } [some (.ref a),some (.ref s),some (.ref q),some (oD o),some (.tup [.ref p1,.ref p2]),some x,none,none] G9)->a7Q K A (fun x=>gW EX) { nx:=fun x G'=>bQ R D.non G',rt:=bQ R,bk:=fun _ _=>False,ct:=fun _ _=>False } [some (.ref a),some (.ref s),some (.ref q),some (oD o),some (.tup [.ref p1,.ref p2]),some x,none,none] G8:=fun x G8 l8 k=>by
   exists a7Q;refine ⟨axB (aF (l8 _ _ k1)) (aF (l8 _ _ k2)) (aF (l8 _ _ ks)) (aF (l8 _ _ kq)),?_⟩;rw [axC (aF (l8 _ _ k1)) (aF (l8 _ _ k2)) (aF (l8 _ _ ks)) (aF (l8 _ _ kq))];walk_at "wr";refine alJ (aF (l8 _ _ k1)) (aF (l8 _ _ k2)) (by omega) (by omega) so fun G9 l9=>?_;walk_at "wr";exact k G9 l9
  cases o with
  | some d =>
   refine seven .non G7 l7 fun G9 l9=>?_;have l:=l7.trans l9;rw [show oD (some d) = .int d from rfl];exists a0I;rw [apR];walk_at "wr";refine a2W (aF (l _ _ k1)) (aF (l _ _ k2)) ls lq os oq (l _ _ kT) fun o3 G10 l10 s3=>?_;obtain rfl:=lK so s3;show a3L .non .non G10 (bQ R);rw [ae7];exact h' _
  | none =>
   intro rs r good sh pm hr G8 l8 e8;refine seven (.ref r) G8 l8 fun G9 l9=>?_;have l:=l8.trans l9;have e9:=l9 _ _ e8;rw [show oD none = .non from rfl];exists a0I,aeD
   have rl:rs.length < 200:=by
    have c:=sh.cnt;rw [good.2.length_eq];have e1:(dM as).length=as.length:=by rw [pm.length_eq];simp
    have e2:uR (fJ st)<=(fJ st).length:=yx;have e3:(fJ st).length=st.length:=by unfold fJ;simp
    omega
   rw [awL (T := "list") (by unfold tyD;simp only [e9]) (by decide)];have fit:=axD good sh pm;rw [show L2.subB "list" "list" = true by decide];walk_at "wr";refine aq0 (aF (l _ _ ks)) (aF (l _ _ kq)) (aF e9) ls lq fit fun G10 l10=>?_;have la:=l.trans l10;have e10:=l10 _ _ e9;exists aaA,a2B (aF e10);intro pk hpk;have e11:=bA (o := .lst (rs.map fK)) e10 hpk;exists aa9;rw [jX,aF e11];refine ⟨rfl,?_⟩;rw [p7 e11 (by rw [bx];omega)];have nr:∀ (z:Addr) (u:GO),G6 z=some u->z≠r:=fun z u e y=>by rw [y,hr] at e;cases e
   have npk:∀ (z:Addr) (u:GO),G6 z=some u->z≠pk:=fun z u e y=>by rw [← y,la _ _ e] at hpk;cases hpk
   have nrk:r≠pk:=fun y=>by rw [← y,e10] at hpk;cases hpk
   have kp:∀ (z:Addr) (u:GO),G6 z=some u->aG (aG G10 pk (.lst (rs.map fK))) r (.lst (rs.map fK++[.tup [.int 0,.int 0,.int 1]])) z=some u:=fun z u e=>by
    rw [bJ (nr z u e)];exact bA (la _ _ e) hpk
   have f1:aG (aG G10 pk (.lst (rs.map fK))) r (.lst (rs.map fK++[.tup [.int 0,.int 0,.int 1]])) pk=some (.lst (rs.map fK)):=by rw [bJ (Ne.symm nrk)];exact aJ
   have f2:aG (aG G10 pk (.lst (rs.map fK))) r (.lst (rs.map fK++[.tup [.int 0,.int 0,.int 1]])) r=some (.lst ((rs++[(0,0,1)]).map fK)):=by rw [aJ,iy];rfl
   generalize aG (aG G10 pk (.lst (rs.map fK))) r (.lst (rs.map fK++[.tup [.int 0,.int 0,.int 1]]))=G11 at *;exists aa8;refine a2W (aF (kp _ _ k1)) (aF (kp _ _ k2)) ls lq os oq (kp _ _ kT) fun o3 G12 l12 s3=>?_;obtain rfl:=lK so s3;intro rs2 r2 good2 sh2 pm2 hr2 G13 l13 e13;obtain rfl:=alI good good2;have m1:=l13 _ _ (kp _ _ k1);have m2:=l13 _ _ (kp _ _ k2);have nr2:∀ (z:Addr) (u:GO),G11 z=some u->z≠r2:=fun z u e y=>by rw [y,hr2] at e;cases e
   exists aa7;rw [jX,aF m1];refine ⟨rfl,?_⟩;rw [aeA m1];exists aa6;have m2':aG G13 p1 (.lst []) p2=some (.lst (as.map cG)):=by rw [bJ (Ne.symm n12)];exact m2
   rw [jX,aF m2'];refine ⟨rfl,?_⟩;rw [aeA m2'];have far:∀ (z:Addr) (u:GO),z≠p1->z≠p2->G13 z=some u->aG (aG G13 p1 (.lst [])) p2 (.lst []) z=some u:=fun z u a b e=>by rw [bJ b,bJ a];exact e
   refine axE (aF (far r2 _ (fun y=>nr2 p1 _ (kp _ _ k1) y.symm) (fun y=>nr2 p2 _ (kp _ _ k2) y.symm) e13)) (far pk _ (fun y=>npk p1 _ k1 y.symm) (fun y=>npk p2 _ k2 y.symm) (l13 _ _ f1)) (aF (far r _ (fun y=>nr p1 _ k1 y.symm) (fun y=>nr p2 _ k2 y.symm) (l13 _ _ f2))) rl h'
 exists aeE;refine wB (k:=6) hG5 (by omega) ?_;walk_at "wr";refine c7 (fun _=>?_) fun _=>go _ (.refl _);refine alJ (aF h1) (aF h2) (by omega) (by omega) so fun G6 l6=>?_;walk_at "wr";exact go _ l6
theorem main (T:Txt K mg A) (a:Addr) (ns:List Int) (hl:ns.length<=63) (G:Gp) (hG:G a=some (.rol (ns.map D.int))) (hT:G A.dJ=some (GO.tab bL.qual bL.pos)):a7S K A [.ref a] G (fun d _=>d = .bl true) (fun _ _=>False):=aC3 hG hT fun _=>rfl
end
end Law
namespace Law
open PySem PySem.Spec PyProof.Rows L2 L4 PySem.W
variable {fd:FuncData}{ps:List Str}
section
variable {P:Program} {w:World} {K:Fg} {mg:Str->Option Value} {base:Heap} {A:bF}
local macro_rules | `(tactic| walk_at "sc")=>`(tactic| exact ⟨rfl,rfl,rfl,by decide +kernel,rfl,by decide +kernel,by decide +kernel⟩)
theorem dc {qt:Bool} {x qual:Str} {st:Stmt} {f:Addr} {k:Nat} {S:SI} {c:CB} {tb:aV->bH} (F:wK K x qual st f fd) (hS:bM S.N ps (aU st)) (hc:S.calm=!qt) (hv:a1X S (aU st)=true) (hk:kB S 0 c (cO st)=true) (he:(fun EX=>mB S.gl K (fun _=>EX) c)=tb) (hg:∀ (j:Nat) (y:Str) (g:GT),S.gl[j]?=some (y,g)->GTs P w K mg base k y g) (hn:S.need=false:=by rfl):cI qt P w K mg base (jB P w) (k+1) f fd ps (cZ K (spD S.N.length ps.length tb)):=by
 rw [← he];exact ak2 F hS hc hv hk hg hn
theorem aq1 (T:Txt K mg A) (hB:Bse base mg A):cI false P w K mg base (jB P w) 1 A.ac2 A.a2F ["stock", "asks", "day"] (cZ K (a0H K A)) :=
 dc (S:=ax1 K A) (c:=ax0) T.a2P (show bM ["stock", "asks", "day", "lies"] ["stock", "asks", "day"] _ from by walk_at "sc") rfl (by kernel_rfl) (by kernel_rfl) (by kernel_rfl) (lH ⟨T.arN,auK⟩ gln)
theorem vG (T:Txt K mg A) (hB:Bse base mg A):cI false P w K mg base (jB P w) 2 A.pX A.fO ["stock", "asks"] (cZ K (dN K A)) :=
 dc (S:=a7I K A) (c:=a7H) T.eG (show bM ["stock", "asks"] ["stock", "asks"] _ from by walk_at "sc") rfl (by kernel_rfl) (by kernel_rfl) (by kernel_rfl) (lH ⟨_,_,_,(aq1 T hB).mono (by decide),T.a7U,T.a2P.kp,T.a7T⟩ gln)
theorem a03 (T:Txt K mg A) (hB:Bse base mg A):cI false P w K mg base (jB P w) 3 A.vX A.lW ["stock", "asks"] (cZ K (fH K A)) :=
 dc (S:=ac5 K A) (c:=ac4) T.iG (show bM ["stock", "asks"] ["stock", "asks"] _ from by walk_at "sc") rfl (by kernel_rfl) (by kernel_rfl) (by kernel_rfl) (lH ⟨_,_,_,(vG T hB).mono (by decide),T.gJ,T.eG.kp,T.gH⟩ (lH ⟨T.a5G,a1G⟩ gln))
theorem a7X (T:Txt K mg A) (hB:Bse base mg A):cI false P w K mg base (jB P w) 3 A.tE A.iV ["stock", "asks"] (cZ K (jY K A)) :=
 dc (S:=a9Y K A) (c:=a9X) T.j4 (show bM ["stock", "asks"] ["stock", "asks"] _ from by walk_at "sc") rfl (by kernel_rfl) (by kernel_rfl) (by kernel_rfl) (lH ⟨T.aeI,abC⟩ (lH ⟨_,_,_,(vG T hB).mono (by decide),T.gJ,T.eG.kp,T.gH⟩ gln))
theorem alK (T:Txt K mg A) (hB:Bse base mg A):cI false P w K mg base (jB P w) 1 A.a7F A.xM ["stock", "left", "day", "wanted"] (cZ K (xO K A)) :=
 dc (S:=apJ K A) (c:=apI) T.yC (show bM ["stock", "left", "day", "wanted", "pairs", "place", "pair", "grains"] ["stock", "left", "day", "wanted"] _ from by walk_at "sc") rfl (by kernel_rfl) (by kernel_rfl) (by kernel_rfl) (lH ⟨T.a00,a7A⟩ (lH ⟨T.aeJ,abB⟩ gln))
theorem a3X (T:Txt K mg A) (hB:Bse base mg A):sO false P w K mg base 1 bL (eU K A):=by
 have h:=ak9 (P:=P) (w:=w) (K:=K) (mg:=mg) (base:=base) (k:=0) (c:=bL) (ps:=["number"]) (S:=xQ K A) (ce:=xP) (show ScX ["asks", "number"] ["number"] "asks" bL.scope from ⟨rfl,rfl,rfl,by decide +kernel,rfl,by decide +kernel,ag4 (by decide +kernel),rfl⟩) (by decide +kernel) (fun _ _ _ _ us hl=>match us,hl with | [_],_=>rfl) rfl (by kernel_rfl) (by kernel_rfl) gln;have e:(mE (xQ K A).gl K (fun _=>gW fun _ _=>False) xP)=kJ K A (fun _=>gW fun _ _=>False):=by kernel_rfl
 rw [e] at h;exact h
theorem agI (T:Txt K mg A) (hB:Bse base mg A):cI false P w K mg base (jB P w) 4 A.a2G A.p8 ["stock", "asks"] (cZ K (lJ K A)):=by
 have h:=akA (P:=P) (w:=w) (K:=K) (mg:=mg) (base:=base) (k:=1) (S:=a9Z K A) (ix:=1) (c:=bL) (sp:=eU K A) (c1:=a2I) (c2:=a2J) (c3:=a2K) (ce:=a2L) (tg:=(.nm 4)) (pre:=(cO cT).take 3) (body:=fBody (inBody cT 3)) (post:=(cO cT).drop 4) (tgt:=aFH (inBody cT 3)) (e:=fArg (inBody cT 3)) (p1:=(ag6 (inBody cT 3)).1) (p2:=(ag6 (inBody cT 3)).2.1) (p3:=(ag6 (inBody cT 3)).2.2.1) (p4:=(ag6 (inBody cT 3)).2.2.2.1) (p5:=(ag6 (inBody cT 3)).2.2.2.2.1) (kp:=(ag6 (inBody cT 3)).2.2.2.2.2) T.pI (show bM ["stock", "asks", "left", "rows", "ask", "pairs"] ["stock", "asks"] _ from by walk_at "sc") (by kernel_rfl) (fun _=>rfl) (by kernel_rfl) T.tL hB.2 hB.1 (by kernel_rfl) rfl (by kernel_rfl) (by kernel_rfl) T.a2Q (by kernel_rfl) T.yF (sO.mono (a3X T hB) (by decide)) rfl (by kernel_rfl) (by kernel_rfl) (by kernel_rfl) rfl (by kernel_rfl) (by kernel_rfl) (by kernel_rfl) (by kernel_rfl) (lH ⟨_,_,_,(a03 T hB).mono (by decide),T.mD,T.iG.kp,T.m9⟩ (lH ⟨T.a5G,a1G⟩ (lH ⟨_,_,_,(alK T hB).mono (by decide),T.a0K,T.yC.kp,T.a0J⟩ (lH ⟨T.a2Q,afO⟩ gln))));have e:(fun EX=>aw4 (a9Z K A).gl K (fun _=>EX) A.dJ bL 1 (eU K A) a2I a2L (.nm 4) a2J a2K)=fun EX=>xV K A (fun _=>EX):=by kernel_rfl
 rw [e] at h;exact h
theorem jF (T:Txt K mg A) (hB:Bse base mg A):cI false P w K mg base (jB P w) 1 A.lX A.dZ ["_law_script", "_law_k"] (cZ K (aZ K A)) :=
 dc (S:=a2N K A) (c:=a2M) T.cN (show bM ["_law_script", "_law_k", "_law_more"] ["_law_script", "_law_k"] _ from by walk_at "sc") rfl (by kernel_rfl) (by kernel_rfl) (by kernel_rfl) (lH ⟨T.a5G,a1G⟩ gln)
theorem a3Y (T:Txt K mg A) (hB:Bse base mg A):cI false P w K mg base (jB P w) 1 A.pY A.fP ["_law_found"] (cZ K (iK K A)) :=
 dc (S:=a7L K A) (c:=a7K) T.gK (show bM ["_law_found"] ["_law_found"] _ from by walk_at "sc") rfl (by kernel_rfl) (by kernel_rfl) (by kernel_rfl) (lH ⟨T.arM,auL⟩ (lH ⟨T.lF,nY⟩ (lH ⟨T.al0,anL⟩ gln)))
theorem a04 (T:Txt K mg A) (hB:Bse base mg A):cI false P w K mg base (jB P w) 1 A.vY A.lY ["_law_number", "_law_k"] (cZ K (bR K A)) :=
 dc (S:=ac7 K A) (c:=ac6) T.iH (show bM ["_law_number", "_law_k", "_law_more"] ["_law_number", "_law_k"] _ from by walk_at "sc") rfl (by kernel_rfl) (by kernel_rfl) (by kernel_rfl) gln
theorem a05 (T:Txt K mg A) (hB:Bse base mg A):cI false P w K mg base (jB P w) 1 A.vZ A.lZ ["_law_cell"] (cZ K (eE K A)) :=
 dc (S:=ac9 K A) (c:=ac8) T.iI (show bM ["_law_cell"] ["_law_cell"] _ from by walk_at "sc") rfl (by kernel_rfl) (by kernel_rfl) (by kernel_rfl) gln
theorem uD (T:Txt K mg A) (hB:Bse base mg A):cI false P w K mg base (jB P w) 1 A.o8 A.eO ["_law_cell"] (cZ K (d8 K A)) :=
 dc (S:=a3W K A) (c:=a3V) T.dO (show bM ["_law_cell"] ["_law_cell"] _ from by walk_at "sc") rfl (by kernel_rfl) (by kernel_rfl) (by kernel_rfl) gln
theorem a3Z (T:Txt K mg A) (hB:Bse base mg A):cI false P w K mg base (jB P w) 2 A.pZ A.fQ ["_law_script"] (cZ K (iM K A)) :=
 dc (S:=a7N K A) (c:=a7M) T.gM (show bM ["_law_script", "_law_base", "_law_many", "_law_stock_here", "_law_k", "_law_more", "_law_due"] ["_law_script"] _ from by walk_at "sc") rfl (by kernel_rfl) (by kernel_rfl) (by kernel_rfl) (lH ⟨_,_,_,(jF T hB).mono (by decide),T.dB,T.cN.kp,T.d9⟩ (lH ⟨_,_,_,(a05 T hB).mono (by decide),T.mK,T.iI.kp,T.mJ⟩ (lH ⟨T.yF,a1Y⟩ (lH ⟨_,_,_,(a04 T hB).mono (by decide),T.mH,T.iH.kp,T.mF⟩ (lH ⟨T.aeI,abC⟩ (lH ⟨T.aeJ,abB⟩ (lH ⟨_,_,_,(uD T hB).mono (by decide),T.eX,T.dO.kp,T.eV⟩ gln)))))))
theorem a7Y (T:Txt K mg A) (hB:Bse base mg A):cI false P w K mg base (jB P w) 2 A.tG A.iW ["_law_script", "_law_stock_here"] (cZ K (kW K A)) :=
 dc (S:=aa1 K A) (c:=aa0) T.j5 (show bM ["_law_script", "_law_stock_here", "_law_asks_here", "_law_k", "_law_more", "_law_due", "_law_amount_here", "_law_ahead", "_law_part", "_law_cell", "_law_at", "_law_turn"] ["_law_script", "_law_stock_here"] _ from by walk_at "sc") rfl (by kernel_rfl) (by kernel_rfl) (by kernel_rfl) (lH ⟨T.yF,a1Y⟩ (lH ⟨T.a5G,a1G⟩ (lH ⟨T.aeJ,abB⟩ (lH ⟨_,_,_,(jF T hB).mono (by decide),T.dB,T.cN.kp,T.d9⟩ (lH ⟨_,_,_,(a04 T hB).mono (by decide),T.mH,T.iH.kp,T.mF⟩ (lH ⟨T.aeI,abC⟩ (lH ⟨_,_,_,(a05 T hB).mono (by decide),T.mK,T.iI.kp,T.mJ⟩ (lH ⟨_,_,_,(uD T hB).mono (by decide),T.eX,T.dO.kp,T.eV⟩ gln))))))))
theorem a7Z (T:Txt K mg A) (hB:Bse base mg A):cI false P w K mg base (jB P w) 1 A.tH A.iY ["_law_stock_here", "_law_asks_here", "_law_day_here"] (cZ K (kY K A)) :=
 dc (S:=aa3 K A) (c:=aa2) T.j6 (show bM ["_law_stock_here", "_law_asks_here", "_law_day_here", "_law_total", "_law_due", "_law_amount_here", "_law_one"] ["_law_stock_here", "_law_asks_here", "_law_day_here"] _ from by walk_at "sc") rfl (by kernel_rfl) (by kernel_rfl) (by kernel_rfl) gln
theorem a4A (T:Txt K mg A) (hB:Bse base mg A):cI false P w K mg base (jB P w) 2 A.qC A.fU ["_law_stock_here", "_law_asks_here"] (cZ K (iQ K A)) :=
 dc (S:=a7P K A) (c:=a7O) T.gO (show bM ["_law_stock_here", "_law_asks_here", "_law_found", "_law_day_here", "_law_amount_here"] ["_law_stock_here", "_law_asks_here"] _ from by walk_at "sc") rfl (by kernel_rfl) (by kernel_rfl) (by kernel_rfl) (lH ⟨_,_,_,(a7Z T hB).mono (by decide),T.nP,T.j6.kp,T.nO⟩ gln)
theorem wD (T:Txt K mg A) (hB:Bse base mg A):cI false P w K mg base (jB P w) 2 A.fV A.cU ["_law_stock_here", "_law_asks_here", "_law_rows"] (cZ K (dH K A)) :=
 dc (S:=xZ K A) (c:=xY) T.cV (show bM ["_law_stock_here", "_law_asks_here", "_law_rows", "_law_had", "_law_gone", "_law_last", "_law_row", "_law_ask", "_law_place", "_law_amount_here"] ["_law_stock_here", "_law_asks_here", "_law_rows"] _ from by walk_at "sc") rfl (by kernel_rfl) (by kernel_rfl) (by kernel_rfl) (lH ⟨T.a5G,a1G⟩ (lH ⟨T.aeK,ai2⟩ (lH ⟨T.lF,nY⟩ (lH ⟨_,_,_,(a3Y T hB).mono (by decide),T.lA,T.gK.kp,T.kZ⟩ (lH ⟨T.yF,a1Y⟩ gln)))))
theorem a80 (T:Txt K mg A) (hB:Bse base mg A):cI false P w K mg base (jB P w) 4 A.tK A.iZ ["_law_stock_here", "_law_asks_here", "_law_due"] (cZ K (gG K A)) :=
 dc (S:=aa5 K A) (c:=aa4) T.j7 (show bM ["_law_stock_here", "_law_asks_here", "_law_due"] ["_law_stock_here", "_law_asks_here", "_law_due"] _ from by walk_at "sc") rfl (by kernel_rfl) (by kernel_rfl) (by kernel_rfl) (lH ⟨_,_,_,(a7X T hB).mono (by decide),T.nH,T.j4.kp,T.nG⟩ (lH ⟨_,_,_,(a03 T hB).mono (by decide),T.mD,T.iG.kp,T.m9⟩ gln))
theorem axF (T:Txt K mg A) (hB:Bse base mg A):cI false P w K mg base (jB P w) 5 A.zX A.akY ["_law_script"] (cZ K (a7S K A)) :=
 dc (S:=aBY K A) (c:=aaB) T.arL (show bM ["_law_script", "_law_stock_here", "_law_asks_here", "_law_due", "_law_handed", "_law_rows", "_law_kept", "_law_again"] ["_law_script"] _ from by walk_at "sc") rfl (by kernel_rfl) (by kernel_rfl) (by kernel_rfl) (lH ⟨_,_,_,(a3Z T hB).mono (by decide),T.lC,T.gM.kp,T.lB⟩ (lH ⟨_,_,_,(a7Y T hB).mono (by decide),T.nM,T.j5.kp,T.nJ⟩ (lH ⟨_,_,_,(a4A T hB).mono (by decide),T.lE,T.gO.kp,T.lD⟩ (lH ⟨T.al1,anM⟩ (lH ⟨_,_,_,(jF T hB).mono (by decide),T.dB,T.cN.kp,T.d9⟩ (lH ⟨_,_,_,(a80 T hB).mono (by decide),T.nR,T.j7.kp,T.nQ⟩ (lH ⟨_,_,_,(agI T hB).mono (by decide),T.yE,T.pI.kp,T.yD⟩ (lH ⟨T.lF,nY⟩ (lH ⟨_,_,_,(wD T hB).mono (by decide),T.dW,T.cV.kp,T.dU⟩ gln)))))))))
end
noncomputable def aeV (K:Fg) (T:Addr):Sp:=fun vs H Q _=>∃ (a:Addr) (ns:List Int),vs=[.ref a]/\rF K H a (ns.map V.int)/\ns.length<=63/\K.lookup T=none/\H T=some (.vH #[])/\∀ H',Q (.bl true) H'
variable {mg:Str->Option Value}
theorem aq2 {K:Fg} {A:bF} (T:Txt K mg A):∀ vs H Q E,aeV K A.dJ vs H Q E->cZ K (a7S K A) vs H Q E:=by
 rintro vs H Q E ⟨a,ns,rfl,hS,hl,hK,hT,k⟩
 have ne:A.dJ≠a:=fun z=>by
  rw [← z] at hS;rcases hS with (e | ⟨o,e⟩) | ⟨o,_,_,e,_⟩
  ·rw [hT] at e;cases e
  ·rw [hT] at e;cases e
  ·rw [hK] at e;cases e
 refine ⟨[.ref a],fun b=>if b=a then some (.rol (ns.map D.int)) else if b=A.dJ then some (GO.tab bL.qual bL.pos) else none,fun d _=>d = .bl true,fun _ _=>False,.cons (.ref a) .nil,fun b o e=>?_,main T a ns hl _ (if_pos rfl) ((if_neg ne).trans (if_pos rfl)),fun v H' d G' r g e=>?_,fun C H' G' g z=>z.elim⟩
 ·have e2:(if b=a then some (GO.rol (ns.map D.int)) else if b=A.dJ then some (GO.tab bL.qual bL.pos) else none)=some o:=e;by_cases hb:b=a
  ·subst hb;rw [if_pos rfl] at e2;cases e2;exact ⟨_,hS,bV.ints ns⟩
  ·rw [if_neg hb] at e2;by_cases hb2:b=A.dJ
   ·subst hb2;rw [if_pos rfl] at e2;cases e2;exact ⟨#[],hT,.inl rfl⟩
   ·rw [if_neg hb2] at e2;cases e2
 ·subst e;cases r;exact k H'
def Cb (K:Fg) (x q:Str) (st:Stmt) (f:Addr):Prop:=∃ oc kV dc pm cd ct od an sl,K.lookup f=some ⟨oc,od,.func (uo x q (jR st) (cO st) (aU st) .none kV dc pm an cd ct),sl⟩/\a0e K cd q=true/\mz K (.ref f)=true
theorem Cb.get {K:Fg} {x q:Str} {st:Stmt} {f:Addr} (b:Cb K x q st f) (ps:List Str) (h:∀ kV dc pm an cd ct,∀ us:List Value,us.length=ps.length->bindArgs (uo x q (jR st) (cO st) (aU st) .none kV dc pm an cd ct) ⟨us,[]⟩=pure (ps.zip us)):∃ d,wK K x q st f d/\Binds K d ps []/\mz K (.ref f)=true:=by
 obtain ⟨oc,kV,dc,pm,cd,ct,od,an,sl,l,c,k⟩:=b;exact ⟨_,ahG (st:=st) l c k,ae6 (h _ _ _ _ _ _),k⟩
def Fb (K:Fg) (x:Str) (st:Stmt) (f:Addr):Prop:=qd K mainGlobals x=some (some (.ref f))/\Cb K x x st f
variable {us:List Value}
theorem len1 (h:us.length=1) (k:∀ a,bindArgs fd ⟨[a],[]⟩=pure (ps.zip [a])):bindArgs fd ⟨us,[]⟩=pure (ps.zip us):=match us,h with | [a],_=>k a
theorem len2 (h:us.length=2) (k:∀ a b,bindArgs fd ⟨[a,b],[]⟩=pure (ps.zip [a,b])):bindArgs fd ⟨us,[]⟩=pure (ps.zip us):=match us,h with | [a,b],_=>k a b
theorem aq3 (h:us.length=3) (k:∀ a b c,bindArgs fd ⟨[a,b,c],[]⟩=pure (ps.zip [a,b,c])):bindArgs fd ⟨us,[]⟩=pure (ps.zip us):=match us,h with | [a,b,c],_=>k a b c
theorem aG0 (h:us.length=4) (k:∀ a b c d,bindArgs fd ⟨[a,b,c,d],[]⟩=pure (ps.zip [a,b,c,d])):bindArgs fd ⟨us,[]⟩=pure (ps.zip us):=match us,h with | [a,b,c,d],_=>k a b c d
theorem Fb.get {K:Fg} {q:Str} {st:Stmt} {f:Addr} {h:Heap} {mg:Str->Option Value} (b:Fb K q st f) (XK:K.In h) (GG:h.Ns mainGlobals mg) (ps:List Str) (h:∀ kV dc pm an cd ct,∀ us:List Value,us.length=ps.length->bindArgs (uo q q (jR st) (cO st) (aU st) .none kV dc pm an cd ct) ⟨us,[]⟩=pure (ps.zip us)):∃ d,wK K q q st f d/\Binds K d ps []/\mg q=some (.ref f):=by
 obtain ⟨d,F,B,_⟩:=b.2.get ps h;exact ⟨d,F,B,PySem.W.mg_of XK GG b.1⟩
def Mb (K:Fg) (c:Addr) (x q:Str) (st:Stmt) (f:Addr):Prop:=su K (.ref c) x=some (some (.ref f))/\PySem.W.isFn K (.ref f)=true/\Cb K x q st f
theorem Mb.get {K:Fg} {c:Addr} {x q:Str} {st:Stmt} {f:Addr} (b:Mb K c x q st f) (ps:List Str) (h:∀ kV dc pm an cd ct,∀ us:List Value,us.length=ps.length->bindArgs (uo x q (jR st) (cO st) (aU st) .none kV dc pm an cd ct) ⟨us,[]⟩=pure (ps.zip us)):∃ d,wK K x q st f d/\Binds K d ps []/\su K (.ref c) x=some (some (.ref f))/\PySem.W.isFn K (.ref f)=true/\mz K (.ref f)=true:=by
 obtain ⟨d,F,B,k⟩:=b.2.2.get ps h;exact ⟨d,F,B,b.1,b.2.1,k⟩
theorem all_mk {l:PySem.W.OpenLaw} {w:World} {K:Fg} {h:Heap} {fa:Addr} (XK:K.In h) (GG:h.Ns mainGlobals mg) (hfa:mg "law" = some (.ref fa))
  (zH:(tabIn K "shares").isSome=true)
  (a5Q:K.lookup (rE K "shares").2=none)
  (acD:Fb K "rest" akX axG)
  (qL:Fb K "short_days" xG a81)
  (wF:Fb K "keepable" a2C acE)
  (uE:Fb K "short_day" zT aaL)
  (a82:Fb K "given" aeC aq4)
  (yI:Fb K "shares" cT alL)
  (mL:Fb K "_law_cell_at" tD a2Y)
  (qM:Fb K "_law_whole" xH a83)
  (wG:Fb K "_law_mix" a2D acF)
  (wH:Fb K "_law_day" a2E acG)
  (oH:Fb K "_law_amount" uZ a4B)
  (qN:Fb K "_law_stock" xJ a84)
  (uF:Fb K "_law_asks" zU aaM)
  (uG:Fb K "_law_rest" zV aaN)
  (qO:Fb K "_law_short" xK a85)
  (gQ:Fb K "_law_rows_right" nC yJ)
  (uH:Fb K "_law_told" zW aaO)
  (zX:qd K mainGlobals "law" = some (some (.ref alM)))
  (alN:K.lookup alM=some ⟨aG1,aG2,.func (uo "law" "law" (jR a9V) (cO a9V) (aU a9V) .none aG3 aG4 aG5 aG6 axH aG7),aG8⟩)
  (aaB:a0e K axH "law" = true)
  (alO:mz K (.ref alM)=true)
  (acH:qd K mainGlobals "bool" = some none)
  (uI:qd K mainGlobals "enumerate" = some none)
  (alP:qd K mainGlobals "int" = some none)
  (qP:qd K mainGlobals "isinstance" = some none)
  (alQ:qd K mainGlobals "len" = some none)
  (acI:qd K mainGlobals "list" = some none)
  (alR:qd K mainGlobals "max" = some none)
  (alS:qd K mainGlobals "min" = some none)
  (a86:qd K mainGlobals "range" = some none)
  (a2Z:qd K mainGlobals "sorted" = some none)
  (alT:qd K mainGlobals "sum" = some none)
  (a87:qd K mainGlobals "tuple" = some none) :
  ∃ fd:FuncData,(∀ (s:Shared) (v:Value),BindsTo s fd ⟨[v],[]⟩ [("_law_script",v)])/\∀ base:Heap,K.In base->base.Ns mainGlobals mg->base.BuiltinsAt mg (rE K "shares").2->CodeHd base (rE K "shares").1 (rE K "shares").2->cI false l.prog w K mg base (jB l.prog w) 5 fa fd ["_law_script"] (aeV K (rE K "shares").2):=by
 have e:=hfa.symm.trans (PySem.W.mg_of XK GG zX);cases e;obtain ⟨a2F,a2P,a7T,a7U⟩:=acD.get XK GG ["stock", "asks", "day"] fun _ _ _ _ _ _ us hl=>aq3 hl fun _ _ _=>rfl;obtain ⟨fO,eG,gH,gJ⟩:=qL.get XK GG ["stock", "asks"] fun _ _ _ _ _ _ us hl=>len2 hl fun _ _=>rfl;obtain ⟨lW,iG,m9,mD⟩:=wF.get XK GG ["stock", "asks"] fun _ _ _ _ _ _ us hl=>len2 hl fun _ _=>rfl;obtain ⟨iV,j4,nG,nH⟩:=uE.get XK GG ["stock", "asks"] fun _ _ _ _ _ _ us hl=>len2 hl fun _ _=>rfl;obtain ⟨xM,yC,a0J,a0K⟩:=a82.get XK GG ["stock", "left", "day", "wanted"] fun _ _ _ _ _ _ us hl=>aG0 hl fun _ _ _ _=>rfl;obtain ⟨p8,pI,yD,yE⟩:=yI.get XK GG ["stock", "asks"] fun _ _ _ _ _ _ us hl=>len2 hl fun _ _=>rfl;obtain ⟨dZ,cN,d9,dB⟩:=mL.get XK GG ["_law_script", "_law_k"] fun _ _ _ _ _ _ us hl=>len2 hl fun _ _=>rfl;obtain ⟨fP,gK,kZ,lA⟩:=qM.get XK GG ["_law_found"] fun _ _ _ _ _ _ us hl=>len1 hl fun _=>rfl;obtain ⟨lY,iH,mF,mH⟩:=wG.get XK GG ["_law_number", "_law_k"] fun _ _ _ _ _ _ us hl=>len2 hl fun _ _=>rfl;obtain ⟨lZ,iI,mJ,mK⟩:=wH.get XK GG ["_law_cell"] fun _ _ _ _ _ _ us hl=>len1 hl fun _=>rfl;obtain ⟨eO,dO,eV,eX⟩:=oH.get XK GG ["_law_cell"] fun _ _ _ _ _ _ us hl=>len1 hl fun _=>rfl;obtain ⟨fQ,gM,lB,lC⟩:=qN.get XK GG ["_law_script"] fun _ _ _ _ _ _ us hl=>len1 hl fun _=>rfl;obtain ⟨iW,j5,nJ,nM⟩:=uF.get XK GG ["_law_script", "_law_stock_here"] fun _ _ _ _ _ _ us hl=>len2 hl fun _ _=>rfl;obtain ⟨iY,j6,nO,nP⟩:=uG.get XK GG ["_law_stock_here", "_law_asks_here", "_law_day_here"] fun _ _ _ _ _ _ us hl=>aq3 hl fun _ _ _=>rfl;obtain ⟨fU,gO,lD,lE⟩:=qO.get XK GG ["_law_stock_here", "_law_asks_here"] fun _ _ _ _ _ _ us hl=>len2 hl fun _ _=>rfl;obtain ⟨cU,cV,dU,dW⟩:=gQ.get XK GG ["_law_stock_here", "_law_asks_here", "_law_rows"] fun _ _ _ _ _ _ us hl=>aq3 hl fun _ _ _=>rfl;obtain ⟨iZ,j7,nQ,nR⟩:=uH.get XK GG ["_law_stock_here", "_law_asks_here", "_law_due"] fun _ _ _ _ _ _ us hl=>aq3 hl fun _ _ _=>rfl
 have T:Txt K mg ⟨axG,a2F,
  a81,fO,
  acE,lW,
  aaL,iV,
  aq4,xM,
  alL,p8,
  a2Y,dZ,
  a83,fP,
  acF,lY,
  acG,lZ,
  a4B,eO,
  a84,fQ,
  aaM,iW,
  aaN,iY,
  a85,fU,
  yJ,cU,
  aaO,iZ,
  alM,_,
  (rE K "shares").2,
  (rE K "shares").1⟩:={
  tL:=ak6 pI (ae5 zH) yI.1,
  a2P:=a2P,
  a7T:=a7T,
  a7U:=a7U,
  eG:=eG,
  gH:=gH,
  gJ:=gJ,
  iG:=iG,
  m9:=m9,
  mD:=mD,
  j4:=j4,
  nG:=nG,
  nH:=nH,
  yC:=yC,
  a0J:=a0J,
  a0K:=a0K,
  pI:=pI,
  yD:=yD,
  yE:=yE,
  cN:=cN,
  d9:=d9,
  dB:=dB,
  gK:=gK,
  kZ:=kZ,
  lA:=lA,
  iH:=iH,
  mF:=mF,
  mH:=mH,
  iI:=iI,
  mJ:=mJ,
  mK:=mK,
  dO:=dO,
  eV:=eV,
  eX:=eX,
  gM:=gM,
  lB:=lB,
  lC:=lC,
  j5:=j5,
  nJ:=nJ,
  nM:=nM,
  j6:=j6,
  nO:=nO,
  nP:=nP,
  gO:=gO,
  lD:=lD,
  lE:=lE,
  cV:=cV,
  dU:=dU,
  dW:=dW,
  j7:=j7,
  nQ:=nQ,
  nR:=nR,
  arL:=ahG (st:=a9V) alN aaB alO,
  aBZ:=ae6 (ps:=["_law_script"]) (fun us hl=>match us,hl with | [_],_=>rfl),
  aC0:=PySem.W.mg_of XK GG zX,
  al0:=jy XK GG acH,
  a00:=jy XK GG uI,
  arM:=jy XK GG alP,
  lF:=jy XK GG qP,
  a5G:=jy XK GG alQ,
  al1:=jy XK GG acI,
  aeI:=jy XK GG alR,
  aeJ:=jy XK GG alS,
  yF:=jy XK GG a86,
  a2Q:=jy XK GG a2Z,
  arN:=jy XK GG alT,
  aeK:=jy XK GG a87 }
 exact ⟨_,fun s v => .of_eq rfl,fun base _ _ h1 h2=>(axF T ⟨h1,h2⟩).imp (aq2 T)⟩
theorem walk {l:PySem.W.OpenLaw} {q:Program} {loose:List Str} {XP:(Str->Option Value)->Heap->Prop} {YP:World->Heap->Prop} {d:DefRec} {K:Params->bw} (hn:l.most=some 63) (hdf:d.params.defaults=[])
  (hY:∀ (w:World) (h:Heap),YP w h->(K w.params).In h) (hdm:((recsOf q).find? (fun e=>e.name == ("shares" : Str))).isSome=true) (hT:∀ w:World,(tabIn (K w.params) "shares").isSome=true) (hKT:∀ w:World,(K w.params).lookup (rE (K w.params) "shares").2=none)
  (F:∀ (w:World) (mg:Str->Option Value) (fa:Addr) (h:Heap),(K w.params).In h->h.Ns mainGlobals mg->mg d.name=some (.ref fa) ->
   ∃ fd:FuncData,(∀ (s:Shared) (u:Value),BindsTo s fd ⟨[u],[]⟩ [("_law_script",u)])/\∀ base:Heap,(K w.params).In base->base.Ns mainGlobals mg->base.BuiltinsAt mg (rE (K w.params) "shares").2->CodeHd base (rE (K w.params) "shares").1 (rE (K w.params) "shares").2->cI false l.prog w (K w.params) mg base (jB l.prog w) 5 fa fd ["_law_script"] (aeV (K w.params) (rE (K w.params) "shares").2)) :
  PySem.W.WalkO q loose XP YP l.row.toRowW d [] (fun f vs=>PySem.call f vs):=by
 obtain ⟨dm,hdm⟩:=a0b.mp hdm;exact L2.ak8 (n:=63) (k:=5) (x := "_law_script") (CX:=fun w=>jB l.prog w) (T:=fun w=>(rE (K w.params) "shares").2) (cC:=fun w=>(rE (K w.params) "shares").1) (sp:=fun w=>aeV (K w.params) (rE (K w.params) "shares").2) hn (by decide) hdf ⟨fun _=>rfl,by decide,by decide⟩ hY hdm (fun w=>ae5 (hT w)) hKT F (fun w _ a ns hl hO hS=>⟨a,ns,rfl,hS,hl,hKT w,hO.1,fun _=>rfl⟩) fun _ _ _ _ _ ⟨_,_,_,_,_,_,_,_,_,_,_,_,z⟩=>z
end Law
open PySem PySem.W PyProof.Rows
theorem PySem.Challenge.cw_depot_k54_whole_shares_holds : PySem.Challenge.rw_depot_k54_whole_shares.Holds := by
 w_on;o_law;o_head (PySem.W.kHook Law.frK.heap_39 Law.frA Law.frE)
 case hl=>exact Law.frL
 case hw=>w_witness2
 k_fill
 refine Law.walk (l:=PySem.Challenge.rw_depot_k54_whole_shares) rfl rfl (fun w h Y=>PySem.W.kIn_of Y) (by kernel_rfl) (fun w=>by kernel_rfl) (fun w=>by kernel_rfl) ?F
 case F =>
  intro w mg fa h KX G hmg;refine' Law.all_mk KX G hmg ?zH ?a5Q ?acD ?qL ?wF ?uE ?a82 ?yI ?mL ?qM ?wG ?wH ?oH ?qN ?uF ?uG ?qO ?gQ ?uH ?zX ?alN ?aaB ?alO ?acH ?uI ?alP ?qP ?alQ ?acI ?alR ?alS ?a86 ?a2Z ?alT ?a87
  case zH | a5Q=>kernel_rfl
  case acD | qL | wF | uE | a82 | yI | mL | qM | wG | wH | oH | qN | uF | uG | qO | gQ | uH=>exact ⟨by k_is,_,_,_,_,_,_,_,_,_,by k_is,by k_is,by k_is⟩
  case zX | alN | aaB | alO | acH | uI | alP | qP | alQ | acI | alR | alS | a86 | a2Z | alT | a87=>k_is
