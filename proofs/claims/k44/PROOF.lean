import PyProof.Rows.All
import Wide.All
import OpenK.KLine
import OpenK.KOwn
import Wide.FinOn
import Lean
import PyProof.EqAt
import PyProof.EqKinds
import PyProof.TupleCall
import KE.KMinKey
import KE.KSortTup
import KE.KRevSl
import KE.KStateDown
import PyProof.Rows.Range3
import KE.KDictOf
import PyProof.AttrMissSeq
import KE.KRevIter
import KE.KItemsList
import KE.KPairComp
import KE.KEqDict
import KE.KDictSum
import KE.RegKIsAll
import KE.KNest
import KE.KClos
import PyProof.Draws
import PyProof.EnumMake
import KE.KLam
import PyProof.AutoListH
import KE.KDictLaws
import PyProof.StrLawsTight
import PySem.Challenge.RW_depot_k44_picked
set_option Elab.async false
set_option linter.all false
set_option maxRecDepth 100000
set_option maxHeartbeats 4000000
open PySem renaming wpAny_bind->aj,wpAny_pure->aq
open Bool renaming and_eq_true->ak,not_eq_true'->cg,false_eq_true->jh,false_ne_true->jw,or_eq_true->qy,eq_iff_iff->wg,not_true->yq
open PySem.Heap renaming get?_push_of_some->ao,lt_size->cu,get?_push_size->dj,SameBut->iy,size_push->qm,get?_update_self->yu,MadeExcOf->a07,ExtBut->a0b
open List renaming length_map->au,size_toArray->bh,getElem?_eq_some_iff->cj,getElem?_eq_getElem->dh,all_eq_true->fj,range->gk,map_cons->iu,mem_cons_of_mem->iw,length_append->iz,mem_map->jc,lookup_cons->jf,mem_append_right->jg,mem_of_getElem?->jk,map_map->jm,getElem?_map->jo,mem_cons->jq,map_append->jx,mem_singleton->kj,length_cons->lq,all_cons->mq,mem_range->ni,length_take->ou,filter_cons->pq,take_length->qb,getElem?_append_right->qd,mem_cons_self->qj,forIn_cons->qp,getElem?_append_left->qu,pairwise_iff_getElem->qw,mem_append->qx,any_cons->rm,cons_append->tu,getD->ud,nodup_cons->uf,of_mem_zip->ug,take_add_one->uh,replicate->um,find?_cons->uw,mem_iff_getElem?->vf,mem_append_left->vg,filterMap_cons->vo,mem_filter->vp,append_nil->vq,drop_eq_getElem_cons->wj,mem_filterMap->wk,getElem?_take_of_lt->xg,nodup_append->xu,getElem?_set_self->yd,range'->yh,take_of_length_le->yj,not_mem_nil->yt,contains_iff_mem->yw,take_append_drop->za,getElem?_set_ne->zj,length_nil->zp,map_nil->zq,map_congr_left->zx,filter_eq_self->zy,nodup_nil->a0a
open Nat renaming le_refl->bw,lt_of_lt_of_le->dg,ne_of_lt->dw,le_trans->jd,lt_irrefl->mj,le_of_lt->nj,zero_le->oh,le_of_eq->wu,lt_trichotomy->yc,ne_of_gt->zm,min_eq_left->zu
open PySem.W renaming Frag->bx,kitOne->gq,subIn->je,nsIn->ji,clsIn->jj,mg_none_of->jr,findIn->jt,excIn->ju,keepIn->jy,typeIn->jz,Looks->kh,fnOf->nu,emptyDict->qe,kia_one->qg,mg_of->su,codeIn->uo,instObj->ur,cellsFrom_some->yg,Hook->zc,hideAll->zf,codeRec_of->a0c
open Option renaming some->gw,map_eq_some_iff->lg,none->vd,isSome_iff_exists->wz
open Int renaming emod_nonneg->qz,emod_lt_of_pos->xq,toNat_natCast->xr,le_refl->yp
open Array renaming length_toList->uq,toList_inj->vh,getElem?_eq_some_iff->vm
namespace Law
open PySem PySem.W PyProof.Rows
noncomputable def frT (n:Nat):Stmt:=PySem.Challenge.pw_depot_k44_picked.main.body.getD n (.Pass ⟨0,0,0,0⟩)
noncomputable def frQ:Program:={ PySem.Challenge.pw_depot_k44_picked with main:={ PySem.Challenge.pw_depot_k44_picked.main with body:=[frT 1,frT 2,frT 3,frT 4,frT 6,frT 7,frT 8,frT 10,frT 12,frT 13,frT 14,frT 15,frT 16,frT 17,frT 19,frT 21,frT 22,frT 23,frT 24,frT 25,frT 26,frT 27,frT 28,frT 29,frT 30] } }
theorem frB {p q:Program} {loose:List Str} {Xt:Shared->Bool} {α:Type} {Yf:Shared->α} {Ya:World->α} {N:Nat} {g0:Bool}
    (e:opening p=plainProg p.main.scope.names) (hN:Nat.ble 600 N=true) (f:∀ s,fenceModules? p s=some s)
    (h:∀ (w:World) (os:OsState),(topFrom treeTable p w N ⟨boot_heap w.params,#[],boot_drawn,boot_toks,os⟩).map (fun s=>(openSeen q loose (importedModules p.main.body) Xt g0 s,Yf s))=some (openGood q loose,Ya w)) :
    LeftO p q loose Xt Yf Ya N g0:=fun w=>by
  obtain ⟨⟨h1,gs,d,k,os⟩,e1,e'⟩:=lg.mp (boot_open e hN f w);obtain ⟨rfl,rfl,rfl,rfl⟩:h1=boot_heap w.params/\gs=#[]/\d=boot_drawn/\k=boot_toks:=by simpa using e'
  unfold openEnds;rw [e1];exact h w os
noncomputable abbrev frX:Shared->Bool:=fun s=>xlAt frQ [] s&&recOk (RowW.records (OpenRow.toRowW (OpenLaw.row PySem.Challenge.rw_depot_k44_picked))) s
end Law
local macro_rules
  | `(tactic| o_head $H)=>`(tactic| refine PySem.W.holds_open (q:=Law.frQ) (loose:=[]) (Xt:=Law.frX) (XP:=PySem.W.XL Law.frQ []) (Yf:=zc.obs $H) (Ya:=zc.val $H)
      (YP:=zc.says $H) (N:=3128) ?hl (zc.of $H) (zc.keeps $H) (fun s e=>PySem.W.xl_of s (Bool.and_eq_true_iff.mp e).1) PySem.W.XL.keeps (by rfl) (by rfl) (by rfl)
      (fun s e=>PySem.W.recFacts_of (Bool.and_eq_true_iff.mp e).2) (by rfl) (by first | assumption | decide +kernel) (by decide +kernel) ⟨rfl,rfl,rfl,rfl,rfl,by decide +kernel⟩ ?hw ?hc)
open PySem PySem.W in
theorem Law.frK (h0:∀ {α:Type} (Yf:Shared->α) (Ya:World->α),LeftO (OpenLaw.row PySem.Challenge.rw_depot_k44_picked).prog Law.frQ [] Law.frX Yf Ya 3128)
    (h1:∀ YP d,WalkO Law.frQ [] (XL Law.frQ []) YP (OpenRow.toRowW (OpenLaw.row PySem.Challenge.rw_depot_k44_picked)) d [] (fun f vs=>PySem.call f vs)):OpenLaw.Holds PySem.Challenge.rw_depot_k44_picked:=by
  w_on;o_law;k_head
  case hl=>exact h0 _ _
  case hw=>w_witness2
  exact h1 _ _
noncomputable abbrev Law.frA:List Nat:=[2,3,15,22,23,24,25,28,35,36,37,40,47,48,49,52,59,60,61,64,66,67,69,70,71,73,74,76,77,78,80,81,83,84,85,86,88,89,91,92,93,95,96,98,99,100,103,104,105,108,109,110,112,113,115,116,117,119,120,122,123,124,126,127,129,130,131,133,134,136,137,138,140,141,143,144,145,147,148,150,151,152,154,155,157,158,159,161,162,164,165,166,168,169,171,172,173,175,176,178,179,180,182,183,185,186,187,190,191]
theorem Law.frE:∀ P,Law.frA=(Law.frK.heap_39 P).map (·.1):=fun _=>by kernel_rfl
open PySem PySem.W in
theorem Law.frL:LeftO (OpenLaw.row PySem.Challenge.rw_depot_k44_picked).prog Law.frQ [] Law.frX (Hook.obs (kHook Law.frK.heap_39 Law.frA Law.frE)) (Hook.val (kHook Law.frK.heap_39 Law.frA Law.frE)) 3128 :=
  Law.frB (by kernel_rfl) (by kernel_rfl) (fun s=>by kernel_rfl) (fun w os=>by kernel_rfl)
namespace L2
open PySem PySem.Spec PyProof.Rows
variable {h:Heap}{a b it l:Addr}{o:Obj}{vs:Array Value}{i:Nat}{us:List Value}{x:Str}
section
structure Tr (B:Heap) (x:Addr) (C fl:Value) (h:Heap):Prop where
  ex:∃ (o:Obj) (vs:Array Value) (T:Addr) (oT:Obj) (ts:Array Value),h.get? x=some o/\o.cls=C/\o.data = .fields vs/\vs[1]?=some (.ref T)/\vs[2]?=some .none/\B.get? T=none/\T≠x/\h.get? T=some oT/\oT.data = .fields ts/\ts[3]?=some fl
structure a8X (B:Heap) (l:List Env) (x:Addr) (C fl:Value) (h:Heap):Prop where
  stays:B.StaysIn h
  new:B.get? x=none
  auF:h.FunFrames B l
  tr:Tr B x C fl h
noncomputable abbrev Fly (B:Heap) (l:List Env) (x:Addr) (C:Value) (h:Heap):Prop:=a8X B l x C .none h
variable {v:Value}
section
variable {M:Model} {A:Around} {E:Value->Shared->Prop} {s:Shared} {B:Heap} {l:List Env} {env:Env} {outer:List Env} {L x:Addr} {C fl:Value}
theorem a8X.fld (f:a8X B l x C fl h):∃ o vs,h.get? x=some o/\o.cls=C/\o.data = .fields vs/\vs[2]?=some .none:=by
  obtain ⟨o,vs,_,_,_,h1,h2,h3,_,h5,_⟩:=f.tr.ex;exact ⟨o,vs,h1,h2,h3,h5⟩
theorem mK (e:h.get? a=some o) (d:o.data = .fields vs) :
    (h.update a (Obj.mapFields (·.setIfInBounds i v))).get? a=some (Obj.mapFields (·.setIfInBounds i v) o)/\(Obj.mapFields (·.setIfInBounds i v) o).data = .fields (vs.setIfInBounds i v)/\(Obj.mapFields (·.setIfInBounds i v) o).cls=o.cls /\
    (∀ b,b≠a->(h.update a (Obj.mapFields (·.setIfInBounds i v))).get? b=h.get? b):=by
  have d':=Obj.data_mapFields d (·.setIfInBounds i v);exact ⟨yu _ e (Obj.isFreed_of_fields d'),d',Obj.cls_mapFields _ _,fun b hb=>Heap.get?_update_other _ _ (Ne.symm hb)⟩
theorem xH {u:Obj} (e:h.get? a=some o) (d:o.data = .fields vs) (e2:h.get? b=some u) (n:∀ ws,u.data ≠ .fields ws):b≠a:=fun q=>by
  subst q;rw [e] at e2;cases e2;exact n vs d
variable {Q:Unit->Shared->Prop}
theorem a3B (f:a8X B l x C fl s.heap) (h:∀ h',Fly B l x C h'->s.heap.UpToSlots h'->Q () { s with heap:=h' }):wpAny M A (setFlight (.ref x) none) Q E s:=by
  obtain ⟨st,nw,fu,⟨o,vs,T,oT,ts,e1,e2,e3,e4,e5,e6,e7,e8,e9,e10⟩⟩:=f;unfold setFlight;refine aj (wpAny_field e1 e3 e4 ?_);rw [if_pos (by simp)];have l3:3 < ts.size:=(vm.mp e10).1;obtain ⟨u1,u2,u3,u4⟩:=mK (i:=3) (v:=(none:Option Addr).elim Value.none fun f=>rawInt f) e8 e9;refine wpAny_setField e8 e9 l3 (h _ ⟨fun b u q=>?_,nw,fu.of_keeps fun b u q n=>⟨u,(u4 b (xH e8 e9 q n)).trans q,rfl⟩,⟨o,vs,T,_,_,(u4 x (Ne.symm e7)).trans e1,e2,e3,e4,e5,e6,e7,u1,u2,?_⟩⟩ fun b u q n=>⟨u.slots,(u4 b (xH e8 e9 q n)).trans q⟩)
  . exact (u4 b fun z=>by subst z;rw [e6] at q;cases q).trans (st b u q)
  . simp [l3]
theorem aaW {head:Value} {hadNext:Bool} (hfr:A.frames=some (env :: outer)) (hf:env.frame=some L) (st:B.StaysIn s.heap) (nw:B.get? x=none) (fu:s.heap.FunFrames B (env :: outer)) (e1:s.heap.get? x=some o) (e2:o.cls=C) (e3:o.data = .fields vs) (e4:1 < vs.size) (e5:vs[2]?=some .none)
    (h:∀ h',a8X B (env :: outer) x C (rawInt L) h'->s.heap.UpToSlots h'->Q () { s with heap:=h' }) :
    wpAny M A (do let a ← frameOf env;let pl ← entryPlaceOf L hadNext;let b ← EntryCells.newEntry head a .none (rawInt L) .none pl;setField (.ref x) 1 b) Q E s:=by
  have nf:x ∉ (env :: outer).filterMap (·.frame):=fun m=>by
    obtain ⟨_,u,hu,hn⟩:=fu.mem m;rw [e1] at hu;cases hu;exact hn vs e3
  refine aj (wpAny_frameOf_fun hfr fu hf fun k so=>aj (wpAny_entryPlaceOf fun pl hpl=>?_));unfold EntryCells.newEntry newFields;refine aj (wpAny_newObj_type ?_ (hpl.sizeOk5 _ _ _ _ _));have k1:k.get? x=some o:=(so.2.1 x nf).trans e1;have tne:k.objs.size≠x:=fun z=>absurd (cu k1) (by rw [z];exact mj _);have kB:∀ b u,B.get? b=some u->k.get? b=some u:=fun b u q=>(so.2.1 b fun m=>by rw [(fu.mem m).1] at q;cases q).trans (st b u q);generalize hT:({ cls := .type "traceback",dict:=none,data := .fields ([head,.ref L,.none,rawInt L,.none]++(if pl.isEmpty then um 6 Value.none else pl)).toArray }:Obj)=oT;have p1:(k.push oT).get? x=some o:=ao _ k1;obtain ⟨u1,u2,u3,u4⟩:=mK (i:=1) (v := .ref k.objs.size) p1 e3;have keep:∀ b u,b≠x->k.get? b=some u->((k.push oT).update x (Obj.mapFields (·.setIfInBounds 1 (.ref k.objs.size)))).get? b=some u:=fun b u n q=>(u4 b n).trans (ao _ q)
  have pT:(k.push oT).get? k.objs.size=some oT:=by
    subst hT;exact dj k rfl
  refine wpAny_setField p1 e3 e4 (h _ ⟨fun b u q=>keep b u (fun z=>by subst z;rw [nw] at q;cases q) (kB b u q),nw,fu.of_keeps fun b u q n=>?_,⟨_,_,k.objs.size,oT,_,u1,u3.trans e2,u2,?_,?_,?_,tne,(u4 _ tne).trans pT,by rw [← hT],?_⟩⟩ fun b u q n=>?_)
  . obtain ⟨sl,z⟩:=so.2.2 b u q;exact ⟨_,keep b _ (xH e1 e3 q n) z,rfl⟩
  . simp [e4]
  . rw [Array.getElem?_setIfInBounds_ne (by decide)];exact e5
  . cases q:B.get? k.objs.size with
    | none=>rfl
    | some u=>exact absurd (cu (kB _ u q)) (mj _)
  . first | (simp;done) | (rcases hpl with rfl | ⟨_,_,_,_,_,_,_,rfl⟩ <;> simp)
  . obtain ⟨sl,z⟩:=so.2.2 b u q;exact ⟨sl,keep b _ (xH e1 e3 q n) z⟩
theorem afC (hfr:A.frames=some (env :: outer)) (hf:env.frame=some L) (f:Fly B (env :: outer) x C s.heap) (h:∀ h',a8X B (env :: outer) x C (rawInt L) h'->s.heap.UpToSlots h'->Q () { s with heap:=h' }):wpAny M A (noteFrame (.ref x) env) Q E s:=by
  obtain ⟨st,nw,fu,⟨o,vs,T,oT,ts,e1,e2,e3,e4,e5,e6,e7,e8,e9,e10⟩⟩:=f;unfold noteFrame;simp only [hf];refine aj (wpAny_field e1 e3 e4 ?_);rw [if_pos (by simp)];refine aj (wpAny_field e8 e9 e10 ?_);rw [if_neg (by simp [rawInt])];have l3:3 < ts.size:=(vm.mp e10).1;obtain ⟨u1,u2,u3,u4⟩:=mK (i:=3) (v := .none) e8 e9;refine aj (wpAny_setField e8 e9 l3 ?_);refine aaW hfr hf (fun b u q=>(u4 b fun z=>by subst z;rw [e6] at q;cases q).trans (st b u q)) nw (fu.of_keeps fun b u q n=>⟨u,(u4 b (xH e8 e9 q n)).trans q,rfl⟩) ((u4 x (Ne.symm e7)).trans e1) e2 e3 (vm.mp e4).1 e5 fun h' f' up=>h h' f' ?_;exact fun b u q n=>up b u ((u4 b (xH e8 e9 q n)).trans q) n
theorem a8X.tail (f:a8X B (env :: outer) x C fl h):a8X B outer x C fl h:=by
  obtain ⟨st,nw,⟨_,_,fu⟩,tr⟩:=f;exact ⟨st,nw,fu,tr⟩
theorem ajB (hfr:A.frames=some (env :: outer)) (hf:env.frame=some L) (f:Fly B (env :: outer) x C s.heap) (h:∀ h',Fly B outer x C h'->s.heap.UpToSlots h'->Q () { s with heap:=h' }):wpAny M A (leaving env (.ref x)) Q E s:=by
  unfold leaving;refine aj (afC hfr hf f fun h1 f1 up1=>a3B f1 fun h2 f2 up2=>?_);exact h h2 f2.tail (up1.trans up2)
theorem adC {h0:Heap} (hfr:A.frames=some (env :: outer)) (hf:env.frame=some L) (st:B.StaysIn h0) (fu:h0.FunFrames B (env :: outer)) (hm:a07 h0 s.heap x C us) (h:∀ h',Fly B outer x C h'->s.heap.UpToSlots h'->Q () { s with heap:=h' }):wpAny M A (leaving env (.ref x)) Q E s:=by
  obtain ⟨t,e1,_,_⟩:=hm.there;unfold leaving noteFrame;simp only [hf];refine aj (aj (wpAny_field (vs:=#[.ref t,.none,.none,.none,.bool false,.none]) (i:=1) e1 rfl rfl ?_));rw [if_neg (by simp)]
  have nw:B.get? x=none:=by
    cases q:B.get? x with
    | none=>rfl
    | some u=>have:=st x u q;rw [hm.new] at this;cases this
  refine aaW hfr hf (fun b u q=>hm.keeps b u (st b u q)) nw (fu.of_keeps fun b u q _=>⟨u,hm.keeps b u q,rfl⟩) e1 rfl rfl (by simp) rfl fun h1 f1 up1=>a3B f1 fun h2 f2 up2=>?_;exact h h2 f2.tail (up1.trans up2)
end
noncomputable def a6V (A:Around) (h:Heap):Prop:=A.handled=none∨∃ x o vs,A.handled=some (.ref x)/\h.get? x=some o/\o.data = .fields vs/\vs[2]?=some .none
theorem a6W:entryFor table "proto.unchain" = some Builtin.«proto.unchain» := entryFor_of_fast (by kernel_rfl)
variable {Q:Option Value->Shared->Prop}
section
variable {prog:Program} {w:World} {A:Around} {E:Value->Shared->Prop} {s:Shared}
theorem ahM {α:Type} {Q:α->Shared->Prop} {oa:Obj} {ws:Array Value} (hq:a6V A s.heap) (ea:s.heap.get? a=some oa) (da:oa.data = .fields ws) (la:2 < ws.size) (na:∀ x,A.handled=some (.ref x)->x≠a)
    (h:∀ h',(∀ b,b≠a->h'.get? b=s.heap.get? b)->(∃ o,h'.get? a=some o/\o.cls=oa.cls)->E (.ref a) { s with heap:=h' }):wpAny (model prog w) A (raiseNew (.ref a):Sem α) Q E s:=by
  unfold raiseNew;refine aj (wpAny_handled ?_);rcases hq with hn | ⟨x,o,vs,hx,ex,dx,vx⟩
  . rw [hn];exact aj (aq (wpAny_throw (h s.heap (fun _ _=>rfl) ⟨oa,ea,rfl⟩)))
  . rw [hx];have ne:=na x hx;show wpAny (model prog w) _ (if ((Value.ref x) != (Value.ref a))=true then _ else _) _ _ _;rw [if_pos (by simpa using ne)];refine aj (wpAny_holding (wpAny_runValue (codeAny_builtin a6W ?_)));show wpAny (model prog w) _ (field (.ref x) 2 >>= _) _ _ _;refine aj (wpAny_field ex dx vx ?_);show wpAny (model prog w) _ (if ((Value.none:Value) == Value.none)=true then _ else _) _ _ _;rw [if_pos (by decide)];refine aj (aq (aq ?_));obtain ⟨u1,u2,u3,u4⟩:=mK (i:=2) (v := .ref x) ea da;show wpAny (model prog w) _ (setField (.ref a) 2 (.ref x) >>= _) _ _ _;exact aj (wpAny_setField ea da la (wpAny_throw (h _ u4 ⟨_,u1,u3⟩)))
theorem nP {α:Type} {Q:α->Shared->Prop} (hq:a6V A s.heap) (h:∀ a h',(∀ b o,s.heap.get? b=some o->h'.get? b=some o)->(∃ o,h'.get? a=some o/\o.cls = .type "StopIteration")->E (.ref a) { s with heap:=h' }) :
    wpAny (model prog w) A (newExc (.type "StopIteration") [] >>= fun e=>(raiseNew e:Sem α)) Q E s:=by
  refine aj ?_;unfold newExc newTuple;refine aj (wpAny_newObj_type (aj (wpAny_of_eq (a:=Value.none) (by simp only [firstArgMember];rfl) (wpAny_newObj_type ?_ (by size_fits)))) (by size_fits));generalize hh:s.heap.push { cls := .type "tuple",data := .seq ([]:List Value).toArray }=h1;generalize ho:({ cls := .type "StopIteration",data := .fields (#[.ref s.heap.objs.size,.none,.none,.none,.bool false,.none]++ownMembersOf (.type "StopIteration") []) }:Obj)=o1;have k1:∀ b o,s.heap.get? b=some o->(h1.push o1).get? b=some o:=fun b o e=>ao _ (hh ▸ ao _ e)
  have ea:(h1.push o1).get? h1.objs.size=some o1:=by
    subst ho;exact dj h1 rfl
  have old:∀ b o,s.heap.get? b=some o->b≠h1.objs.size:=fun b o e z=>by
    have l1:b < h1.objs.size:=by
      rw [← hh,qm];exact Nat.lt_succ_of_lt (cu e)
    exact absurd l1 (by rw [z];exact mj _)
  refine ahM (ws:=#[.ref s.heap.objs.size,.none,.none,.none,.bool false,.none]++ownMembersOf (.type "StopIteration") []) ?_ ea (by rw [← ho]) (by simp [ownMembersOf]) (fun x hx=>?_) fun h' k c=>h h1.objs.size h' (fun b o e=>(k b (old b o e)).trans (k1 b o e)) ?_
  . rcases hq with z | ⟨x,o,vs,a1,a2,a3⟩
    . exact .inl z
    . exact .inr ⟨x,o,vs,a1,k1 _ _ a2,a3⟩
  . rcases hq with z | ⟨x',o,vs,a1,a2,a3⟩
    . rw [z] at hx;cases hx
    . rw [a1] at hx;cases hx;exact old _ _ a2
  . obtain ⟨o,e,c⟩:=c;exact ⟨o,e,by rw [c,← ho]⟩
theorem qZ {T id:String} {b:Builtin} (slot:Slot T (Str.ofString "__next__") id) (entry:entryFor table id=some b) (hT:s.TypeIs (.ref it) T) (args:argsOk id ⟨[.ref it],[]⟩)
    (hb:wpAny (model prog w) A.in1 (b ⟨[.ref it],[]⟩) (fun _ _=>False) (fun e s'=>∃ a o,e = .ref a/\s'.heap.get? a=some o/\o.cls = .type "StopIteration" /\ Q none s') s):wpAny (model prog w) A (pyNext (.ref it)) Q E s:=by
  unfold pyNext;refine aj (wpAny_attempt (wpAny_callSpecial?_slot hT slot (wpAny_call_entry slot hT entry (wpAny_mono hb (fun _ _ z=>z.elim) fun e s' z=>?_) args)));obtain ⟨a,o,rfl,e1,e2,q⟩:=z;exact aj (wpAny_isInstance (T := "StopIteration") (b:=true) ⟨o,e1,e2⟩ isSubtype_stop (aq q))
theorem a3C (hq:a6V A s.heap) (e:s.heap.get? it=some o) (d:o.data = .fields vs) (l:vs[2]?≠some .none):a6V A (s.heap.update it (Obj.mapFields (·.setIfInBounds i v))):=by
  rcases hq with z | ⟨x,ox,ws,a1,a2,a3,a4⟩
  . exact .inl z
  . refine .inr ⟨x,ox,ws,a1,?_,a3,a4⟩
    have ne:x≠it:=fun z=>by
      subst z;rw [e] at a2;cases a2;rw [d] at a3;cases a3;exact l a4
    exact ((mK e d).2.2.2 x ne).trans a2
theorem ahN {items:Array Value} (hq:a6V A s.heap) (hit:s.heap.IsListIter it l i) (hl:s.heap.IsList l items) (hx:items[i]?=none)
    (h:∀ h',a0b it s.heap h'->Q none { s with heap:=h' }):wpAny (model prog w) A (pyNext (.ref it)) Q E s:=by
  obtain ⟨o,e1,c1,d1⟩:=id hit;obtain ⟨ol,e2,_,nl,d2⟩:=hl;refine qZ slot_listiter_next entry_listiter_next hit.typeIs (args_listiter_next _) ?_;show wpAny (model prog w) _ (field (.ref it) 0 >>= _) _ _ s;refine aj (wpAny_field e1 d1 (x := .ref l) rfl ?_);show wpAny (model prog w) _ (field (.ref it) 1 >>= _) _ _ s;refine aj (wpAny_field e1 d1 (x := .int i 0) rfl ?_);show wpAny (model prog w) _ (seqItems? (.ref l) >>= _) _ _ s;refine aj (wpAny_seqItems e2 d2 ?_);simp only [hx,xr];refine aj (wpAny_rule (aj (wpAny_setField e1 d1 (by simp) ?_)));refine nP (A:=A.in1) (a3C hq e1 d1 (by simp)) fun a h' k c=>?_;obtain ⟨oa,ea,ca⟩:=c;exact ⟨a,oa,rfl,ea,ca,h h' fun b ob n e=>k b ob (((mK e1 d1).2.2.2 b n).trans e)⟩
theorem ajC {items:Array Value} (hq:a6V A s.heap) (hit:s.heap.IsTupleIter it l i) (hl:s.heap.IsTuple l items) (hx:items[i]?=none)
    (h:∀ h',a0b it s.heap h'->Q none { s with heap:=h' }):wpAny (model prog w) A (pyNext (.ref it)) Q E s:=by
  obtain ⟨o,e1,c1,d1⟩:=id hit;obtain ⟨ol,e2,_,nl,d2⟩:=hl;refine qZ F.slot_tuple_iterator_next F.entry_tuple_iterator_next hit.typeIs (F.args_tuple_iterator_next_1 _) ?_;show wpAny (model prog w) _ (field (.ref it) 0 >>= _) _ _ s;refine aj (wpAny_field e1 d1 (x := .ref l) rfl ?_);show wpAny (model prog w) _ (field (.ref it) 1 >>= _) _ _ s;refine aj (wpAny_field e1 d1 (x := .int i 0) rfl ?_);show wpAny (model prog w) _ (seqItems? (.ref l) >>= _) _ _ s;refine aj (wpAny_seqItems e2 d2 ?_);simp only [hx,xr];refine aj (wpAny_rule (aj (wpAny_setField e1 d1 (by simp) ?_)));refine nP (A:=A.in1) (a3C hq e1 d1 (by simp)) fun a h' k c=>?_;obtain ⟨oa,ea,ca⟩:=c;exact ⟨a,oa,rfl,ea,ca,h h' fun b ob n e=>k b ob (((mK e1 d1).2.2.2 b n).trans e)⟩
theorem ajD {x left step:Int} (hq:a6V A s.heap) (hit:IsRangeIter s.heap it x left step) (hleft:left<=0)
    (h:∀ h',a0b it s.heap h'->Q none { s with heap:=h' }):wpAny (model prog w) A (pyNext (.ref it)) Q E s:=by
  refine qZ F.slot_range_iterator_next F.entry_range_iterator_next ⟨_,hit,rfl⟩ (F.args_range_iterator_next_1 _) ?_;show wpAny (model prog w) _ (field (.ref it) 0 >>= _) _ _ s;refine aj (wpAny_field hit rfl (i:=0) rfl ?_);show wpAny (model prog w) _ (field (.ref it) 1 >>= _) _ _ s;refine aj (wpAny_field hit rfl (i:=1) rfl ?_);show wpAny (model prog w) _ (field (.ref it) 2 >>= _) _ _ s;refine aj (wpAny_field hit rfl (i:=2) rfl ?_);show wpAny (model prog w) _ (if left<=0 then _ else _) _ _ s;rw [if_pos hleft];refine aj (wpAny_rule (aj ?_));refine nP (A:=A.in1) hq fun a h' k c=>?_;obtain ⟨oa,ea,ca⟩:=c;exact ⟨a,oa,rfl,ea,ca,h h' fun b ob n e=>k b ob e⟩
theorem ahO {t:Tok} (hq:a6V A s.heap) (hit:s.heap.IsStrIter it "str_ascii_iterator" x t i) (hx:x.cps[i]?=none)
    (h:∀ h',a0b it s.heap h'->Q none { s with heap:=h' }):wpAny (model prog w) A (pyNext (.ref it)) Q E s:=by
  obtain ⟨o,e1,c1,d1⟩:=id hit;refine qZ F.slot_str_ascii_iterator_next F.entry_str_ascii_iterator_next hit.typeIs (F.args_str_ascii_iterator_next_1 _) ?_;show wpAny (model prog w) _ (field (.ref it) 0 >>= _) _ _ s;refine aj (wpAny_field e1 d1 (x := .str x t) rfl ?_);show wpAny (model prog w) _ (field (.ref it) 1 >>= _) _ _ s;refine aj (wpAny_field e1 d1 (x := .int i 0) rfl ?_);simp only [hx,xr];refine aj (wpAny_rule (aj (wpAny_setField e1 d1 (by simp) (aj (wpAny_letGo ?_)))));refine nP (A:=A.in1) (a3C hq e1 d1 (by simp)) fun a h' k c=>?_;obtain ⟨oa,ea,ca⟩:=c;exact ⟨a,oa,rfl,ea,ca,h h' fun b ob n e=>k b ob (((mK e1 d1).2.2.2 b n).trans e)⟩
theorem ahP {t:Tok} (hq:a6V A s.heap) (hit:s.heap.IsStrIter it "str_iterator" x t i) (hx:x.cps[i]?=none)
    (h:∀ h',a0b it s.heap h'->Q none { s with heap:=h' }):wpAny (model prog w) A (pyNext (.ref it)) Q E s:=by
  obtain ⟨o,e1,c1,d1⟩:=id hit;refine qZ F.slot_str_iterator_next F.entry_str_iterator_next hit.typeIs (F.args_str_iterator_next_1 _) ?_;show wpAny (model prog w) _ (field (.ref it) 0 >>= _) _ _ s;refine aj (wpAny_field e1 d1 (x := .str x t) rfl ?_);show wpAny (model prog w) _ (field (.ref it) 1 >>= _) _ _ s;refine aj (wpAny_field e1 d1 (x := .int i 0) rfl ?_);simp only [hx,xr];refine aj (wpAny_rule (aj (wpAny_setField e1 d1 (by simp) (aj (wpAny_letGo ?_)))));refine nP (A:=A.in1) (a3C hq e1 d1 (by simp)) fun a h' k c=>?_;obtain ⟨oa,ea,ca⟩:=c;exact ⟨a,oa,rfl,ea,ca,h h' fun b ob n e=>k b ob (((mK e1 d1).2.2.2 b n).trans e)⟩
end
end
section
noncomputable abbrev Key:=Sum Int Str
noncomputable def a7R:Key->Value->Bool
  | .inl k,v=>Value.isInt k v
  | .inr x,v=>Value.isStrOf x v
noncomputable def aFT (w:World):Key->Int
  | .inl k=>hashInt k
  | .inr x=>hashStr w x
theorem d9:∀ {k:Key} {v:Value},a7R k v=true->(∃ i t,k=Sum.inl i/\v=Value.int i t)∨(∃ x t,k=Sum.inr x/\v=Value.str x t)
  | .inl i,v,h=>by
    obtain ⟨t,e⟩:=Value.isInt_shape (k:=i) (v:=v) h;exact .inl ⟨i,t,rfl,e⟩
  | .inr x,v,h=>by
    obtain ⟨t,e⟩:=Value.isStrOf_shape (x:=x) (v:=v) h;exact .inr ⟨x,t,rfl,e⟩
theorem ahQ (i:Int) (t:Tok):a7R (.inl i) (.int i t)=true:=by simp [a7R,Value.isInt]
theorem ahR (x:Str) (t:Tok):a7R (.inr x) (.str x t)=true:=by simp [a7R,Value.isStrOf]
theorem auG (a b:Int):decide ((Sum.inl a:Key)=Sum.inl b)=(a == b):=by
  by_cases e:a=b
  . subst e;simp
  . have h:¬ (Sum.inl a:Key)=Sum.inl b:=fun q=>e (Sum.inl.inj q);rw [decide_eq_false h];exact (beq_eq_false_iff_ne.mpr e).symm
theorem auH (a b:Str):decide ((Sum.inr a:Key)=Sum.inr b)=decide (a=b):=by
  by_cases e:a=b
  . subst e;simp
  . have h:¬ (Sum.inr a:Key)=Sum.inr b:=fun q=>e (Sum.inr.inj q);rw [decide_eq_false h,decide_eq_false e]
theorem auI (a:Int) (b:Str):decide ((Sum.inl a:Key)=Sum.inr b)=false:=decide_eq_false (fun q=>nomatch q)
theorem auJ (a:Str) (b:Int):decide ((Sum.inr a:Key)=Sum.inl b)=false:=decide_eq_false (fun q=>nomatch q)
noncomputable def aL (prog:Program) (w:World):PySem.KeyKind prog w Key where
  is:=a7R
  hash:=aFT w
  inj:=fun v a b ha hb=>by
    rcases d9 ha with ⟨i,t,rfl,rfl⟩ | ⟨x,t,rfl,rfl⟩
    . rcases d9 hb with ⟨j,u,rfl,e⟩ | ⟨y,u,rfl,e⟩
      . injection e with e1 _;rw [e1]
      . exact nomatch e
    . rcases d9 hb with ⟨j,u,rfl,e⟩ | ⟨y,u,rfl,e⟩
      . exact nomatch e
      . injection e with e1 _;rw [e1]
  byValue:=fun k v h=>by
    rcases d9 h with ⟨i,t,rfl,rfl⟩ | ⟨x,t,rfl,rfl⟩ <;> rfl
  pyHash:=fun hv h=>by
    rcases d9 hv with ⟨i,t,rfl,rfl⟩ | ⟨x,t,rfl,rfl⟩
    . exact wpAny_pyHash_int h
    . exact wpAny_pyHash_str h
  eqBool:=fun hu hv h=>by
    rcases d9 hu with ⟨i,t,rfl,rfl⟩ | ⟨x,t,rfl,rfl⟩
    . rcases d9 hv with ⟨j,u,rfl,rfl⟩ | ⟨y,u,rfl,rfl⟩
      . rw [auG] at h;exact wpAny_eqBool_int h
      . rw [auI] at h;exact SeqAt.EqAt.int_str i t y u _ _ _ _ h
    . rcases d9 hv with ⟨j,u,rfl,rfl⟩ | ⟨y,u,rfl,rfl⟩
      . rw [auJ] at h;exact SeqAt.EqAt.str_int x t j u _ _ _ _ h
      . rw [auH] at h;exact wpAny_eqBool_str h
  «strs» := fun k x t v h=>by
    rcases d9 h with ⟨i,u,rfl,e⟩ | ⟨y,u,rfl,e⟩
    . exact nomatch e
    . injection e with e1 _;subst e1;cases v <;> rfl
theorem a2F (prog:Program) (w:World) (i:Int) (t:Tok):(aL prog w).is (.inl i) (.int i t)=true:=ahQ i t
theorem aaX (prog:Program) (w:World) (x:Str) (t:Tok):(aL prog w).is (.inr x) (.str x t)=true:=ahR x t
end
variable {P:Program}
section
inductive V where
  | non | bl (b:Bool) | int (i:Int) | str (x:Str) | byt (b:Array UInt8) | flt (b:UInt64) | ref (a:Addr) | ty (n:String)
  deriving DecidableEq
noncomputable def RelV:V->Value->Prop
  | .non,u=>u=Value.none
  | .bl b,u=>u=Value.bool b
  | .int i,u=>∃ t,u=Value.int i t
  | .str x,u=>∃ t,u=Value.str x t
  | .byt b,u=>∃ t,u=Value.bytes b t
  | .flt b,u=>∃ t,u=Value.float b t
  | .ref a,u=>u=Value.ref a
  | .ty n,u=>u=Value.type n
noncomputable abbrev Vals:List V->List Value->Prop:=Paired RelV
theorem Vals.length {xs:List V} {us:List Value} (r:Vals xs us):xs.length=us.length:=Paired.length r
theorem Vals.get:∀ {xs:List V} {us:List Value} {i:Nat} {x:V},Vals xs us->xs[i]?=some x->∃ u,us[i]?=some u/\RelV x u
  | _,_,_,_,.nil,e=>by simp at e
  | _,_,0,_,.cons r _,e=>by simp at e;subst e;exact ⟨_,rfl,r⟩
  | _,_,i+1,x,.cons _ t,e=>by
    obtain ⟨u,h1,h2⟩:=Vals.get (i:=i) (x:=x) t (by simpa using e);exact ⟨u,by simpa using h1,h2⟩
theorem Vals.set {x:V} {u:Value} (r:RelV x u):∀ {xs:List V} {us:List Value} (i:Nat),Vals xs us->Vals (xs.set i x) (us.set i u)
  | _,_,_,.nil => .nil
  | _,_,0,.cons _ t => .cons r t
  | _,_,i+1,.cons q t => .cons q (Vals.set r i t)
theorem Vals.append:∀ {xs ys:List V} {us ws:List Value},Vals xs us->Vals ys ws->Vals (xs++ys) (us++ws)
  | _,_,_,_,.nil,s=>s
  | _,_,_,_,.cons r t,s => .cons r (Vals.append t s)
theorem Vals.take:∀ {xs:List V} {us:List Value} (n:Nat),Vals xs us->Vals (xs.take n) (us.take n)
  | _,_,0,_ => .nil
  | _,_,_+1,.nil => .nil
  | _,_,n+1,.cons r t => .cons r (Vals.take n t)
theorem Vals.drop:∀ {xs:List V} {us:List Value} (n:Nat),Vals xs us->Vals (xs.drop n) (us.drop n)
  | _,_,0,r=>r
  | _,_,_+1,.nil => .nil
  | _,_,n+1,.cons _ t=>Vals.drop n t
noncomputable def a1K:Option V->Option Value->Prop
  | some v,some u=>RelV v u
  | none,none=>True
  | _,_=>False
noncomputable def KV {κ:Type}:List (κ×V)->List (κ×Value)->Prop:=Paired fun (p:κ×V) (q:κ×Value)=>p.1=q.1/\RelV p.2 q.2
noncomputable def kV:Key->V
  | .inl i => .int i
  | .inr x => .str x
inductive HO where
  | lst (xs:List V)
  | tup (xs:List V)
  | dK (kvs:List (Key×V)) | dT (kvs:List (List Key×V))
  | set (S:Int->Bool) (n:Nat)
  | ins (C dx:Addr) (fs:List (Str×V))
  | own (x:Addr)
  | xd (fs:List (Str×V))
  | met (f x:Addr)
  | rng (lo hi:Int)
  | nQ (o:Obj) (u:HO)
  | vB (ps:Array Value)
  | ext (φ:Heap->Prop)
noncomputable abbrev Hp:=Addr->Option HO
noncomputable def upd (H:Hp) (a:Addr) (o:HO):Hp:=fun b=>if b=a then some o else H b
variable {H:Hp}
theorem aF {o:HO}:upd H a o a=some o:=by unfold upd;rw [if_pos rfl]
theorem aJ {o:HO} (h:b≠a):upd H a o b=H b:=by unfold upd;rw [if_neg h]
variable {u:HO}
theorem nR {o:HO} (h:H a=some o) (h':H b=some u) (d:o≠u):a≠b:=by
  intro e;subst e;rw [h] at h';exact d (gw.inj h')
theorem aR {o:HO} (h:H a=some o) (h':H b=none):a≠b:=by
  intro e;subst e;rw [h] at h';cases h'
section
variable (P:Program) (w:World)
noncomputable def dG (H:Hp) (h:Heap) (a:Addr):HO->Prop
  | .lst xs=>xs.length<=sizeLine/\∃ (its:List Value) (n:Nat),Vals xs its/\h.get? a=some { cls := .type "list",data := .seq its.toArray n }
  | .tup xs=>xs.length<=sizeLine/\∃ its:List Value,Vals xs its/\IsTup h a its.toArray
  | .dK kvs=>kvs.length<=sizeLine/\(a == sysModules)=false/\∃ vs,KV kvs vs/\h.DictOf (aL P w) a vs
  | .dT kvs=>kvs.length<=sizeLine/\(a == sysModules)=false/\∃ xs:List (List Key×Addr×Value),
      Paired (fun (p:List Key×V) (q:List Key×Addr×Value)=>p.1=q.1/\H q.2.1=some (.tup (p.1.map kV))/\RelV p.2 q.2.2) kvs xs /\
      ∃ o es ep,h.get? a=some o/\o.ExactDict/\o.data = .dict es ep/\es.toList=xs.map (entryOfKey (tupleKind (aL P w)))/\(xs.map (·.1)).Nodup
  | .set S n=>h.SetOf (intKind P w) a S n
  | .ins C dx fs=>H dx=some (.own a)/\fs.length<=1000/\dx≠a/\h.get? a=some (ur C dx) /\
      ∃ mA,h.Ns1 dx mA/\(∀ f,a1K (fs.lookup f) (mA f))/\PySem.Within mA (fs.map (·.1))
  | .own _=>∃ o,h.get? a=some o
  | .xd fs=>∃ mA,h.Ns1 a mA/\∀ f,a1K (fs.lookup f) (mA f)
  | .rng lo hi=>∃ t u v,h.get? a=some { cls := .type "range",data := .fields #[.int lo t,.int hi u,.int 1 v] }
  | .nQ o u=>h.get? a=some o/\dG H h a u
  | .vB ps=>h.get? a=some { cls := .none,data := .fields ps }
  | .met f x=>h.get? a=some (PySem.W.methodObj (.ref f) (.ref x))
  | .ext φ=>φ h/\(∃ o,h.get? a=some o)/\∀ h1 h2:Heap,φ h1->(∀ o,h1.get? a=some o->h2.get? a=some o)->φ h2
noncomputable def qL (H:Hp) (h:Heap):Prop:=∀ a o,H a=some o->dG P w H h a o
end
section
variable {P:Program} {w:World} {H H':Hp} {h h':Heap} {a:Addr} {o:HO}
theorem dG.lt (x:dG P w H h a o):a < h.objs.size:=by
  cases o with
  | lst xs=>obtain ⟨_,_,_,_,e⟩:=x;exact cu e
  | tup xs=>obtain ⟨_,_,_,p⟩:=x;exact p.lt
  | dK kvs=>obtain ⟨_,_,_,_,o,_,_,e,_⟩:=x;exact cu e
  | dT kvs=>obtain ⟨_,_,_,_,o,_,_,e,_⟩:=x;exact cu e
  | set S n=>obtain ⟨o,_,_,_,e,_⟩:=x;exact cu e
  | ins C dx fs=>obtain ⟨_,_,_,e,_⟩:=x;exact cu e
  | own y=>obtain ⟨_,e⟩:=x;exact cu e
  | xd fs=>obtain ⟨_,⟨_,_,_,e,_⟩,_⟩:=x;exact cu e
  | rng lo hi=>obtain ⟨_,_,_,e⟩:=x;exact cu e
  | nQ ob u=>obtain ⟨e,_⟩:=x;exact cu e
  | vB ps=>exact cu (show h.get? a=some _ from x)
  | met f y=>exact cu (show h.get? a=some _ from x)
  | ext φ=>obtain ⟨_,⟨_,e⟩,_⟩:=x;exact cu e
theorem Paired.auK {α β:Type} {F G:α->β->Prop}:∀ {l₁:List α} {l₂:List β},Paired F l₁ l₂->(∀ a b,F a b->G a b)->Paired G l₁ l₂
  | _,_,.nil,_ => .nil
  | _,_,.cons r t,f => .cons (f _ _ r) (Paired.auK t f)
theorem dG.stay (x:dG P w H h a o) (k:∀ b u,(b=a∨H b=some (.own a))->h.get? b=some u->h'.get? b=some u)
    (ho:∀ b,H b=some (.own a)->H' b=some (.own a)) (ht:∀ b xs,H b=some (.tup xs)->H' b=some (.tup xs)):dG P w H' h' a o:=by
  induction o with
  | lst xs=>obtain ⟨z,its,n,r,e⟩:=x;exact ⟨z,its,n,r,k _ _ (.inl rfl) e⟩
  | tup xs=>obtain ⟨z,its,r,ob,e,c⟩:=x;exact ⟨z,its,r,ob,k _ _ (.inl rfl) e,c⟩
  | dK kvs=>obtain ⟨z,y,vs,r,ob,es,ep,e,c⟩:=x;exact ⟨z,y,vs,r,ob,es,ep,k _ _ (.inl rfl) e,c⟩
  | dT kvs =>
    obtain ⟨z,y,xs,r,ob,es,ep,e,c⟩:=x;exact ⟨z,y,xs,Paired.auK r fun p q z=>⟨z.1,ht _ _ z.2.1,z.2.2⟩,ob,es,ep,k _ _ (.inl rfl) e,c⟩
  | set S n=>obtain ⟨ob,es,ep,t,e,c⟩:=x;exact ⟨ob,es,ep,t,k _ _ (.inl rfl) e,c⟩
  | ins C dx fs =>
    obtain ⟨d,z,ne,e,mA,⟨od,es,ep,e2,c⟩,r⟩:=x;exact ⟨ho _ d,z,ne,k _ _ (.inl rfl) e,mA,⟨od,es,ep,k _ _ (.inr d) e2,c⟩,r⟩
  | own y=>obtain ⟨ob,e⟩:=x;exact ⟨ob,k _ _ (.inl rfl) e⟩
  | xd fs=>obtain ⟨mA,⟨od,es,ep,e,c⟩,r⟩:=x;exact ⟨mA,⟨od,es,ep,k _ _ (.inl rfl) e,c⟩,r⟩
  | rng lo hi=>obtain ⟨t,u,v,e⟩:=x;exact ⟨t,u,v,k _ _ (.inl rfl) e⟩
  | nQ ob u ih=>obtain ⟨e,q⟩:=x;exact ⟨k _ _ (.inl rfl) e,ih q⟩
  | vB ps =>
    have e:h.get? a=some { cls := .none,data := .fields ps }:=x;show h'.get? a=some { cls := .none,data := .fields ps };exact k a _ (.inl rfl) e
  | met f y =>
    have e:h.get? a=some (PySem.W.methodObj (.ref f) (.ref y)):=x;show h'.get? a=some (PySem.W.methodObj (.ref f) (.ref y));exact k a _ (.inl rfl) e
  | ext φ=>obtain ⟨p,⟨o,e⟩,st⟩:=x;exact ⟨st _ _ p fun o q=>k _ _ (.inl rfl) q,⟨o,k _ _ (.inl rfl) e⟩,st⟩
theorem qL.lt (x:qL P w H h) (e:H a=some o):a < h.objs.size:=(x a o e).lt
theorem qL.fresh (x:qL P w H h) (e:h.objs.size<=a):H a=none:=by
  cases q:H a with
  | none=>rfl
  | some u=>exact absurd (dg (x.lt q) e) (mj _)
theorem qL.kept (x:qL P w H h) (k:∀ b u,h.get? b=some u->h'.get? b=some u):qL P w H h':=fun a o e =>
  (x a o e).stay (fun b u _ q=>k b u q) (fun _ q=>q) fun _ _ q=>q
theorem qL.laid (x:qL P w H h) (k:∀ b u,h.get? b=some u->h'.get? b=some u) (hp:h.objs.size<=a) (new:dG P w (upd H a o) h' a o):qL P w (upd H a o) h':=fun b u e=>by
  have hn:=x.fresh hp;by_cases hb:b=a
  . subst hb;rw [aF] at e;cases e;exact new
  . rw [aJ hb] at e;exact (x b u e).stay (fun c v _ q=>k c v q) (fun c q=>by rw [aJ (aR q hn)];exact q) fun c xs q=>by rw [aJ (aR q hn)];exact q
end
noncomputable def Rd (H:Hp) (a:Addr) (u:HO):Prop:=H a=some u∨∃ o,H a=some (.nQ o u)
theorem Rd.of (h:H a=some u):Rd H a u := .inl h
theorem Rd.ok {w:World} (r:Rd H a u) (x:qL P w H h):dG P w H h a u:=by
  rcases r with r | ⟨o,r⟩
  . exact x a u r
  . obtain ⟨_,q⟩:=x a _ r;exact q
noncomputable def Mut:Option HO->Prop
  | some (.lst _)=>True
  | some (.dK _)=>True
  | some (.dT _)=>True
  | some (.set _ _)=>True
  | some (.ins _ _ _)=>True
  | some (.ext _)=>True
  | _=>False
section
variable {P:Program} {w:World} {H:Hp} {h h':Heap} {x e:Addr} {o':HO}
theorem qL.write (ok:qL P w H h) (mu:Mut (H x)) (he:e=x∨H e=some (.own x)) (k:∀ b u,b≠e->h.get? b=some u->h'.get? b=some u) (heo:∃ u,h'.get? e=some u)
    (new:dG P w (upd H x o') h' x o'):qL P w (upd H x o') h':=fun b u q=>by
  have aAG:∀ c y,H c=some (.own y)->c≠x:=fun c y r z=>by subst z;rw [r] at mu;exact mu
  have aFU:∀ c xs,H c=some (.tup xs)->c≠x:=fun c xs r z=>by subst z;rw [r] at mu;exact mu
  by_cases hb:b=x
  . subst hb;rw [aF] at q;cases q;exact new
  . rw [aJ hb] at q;by_cases hbe:b=e
    . have q':H b=some (.own x):=by
        rcases he with z | z
        . exact absurd (hbe.trans z) hb
        . rw [hbe];exact z
      rw [q] at q';cases q';obtain ⟨v,hv⟩:=heo;exact ⟨v,by rw [hbe];exact hv⟩
    . refine (ok b u q).stay (fun c v hc r=>k c v ?_ r) (fun c r=>by rw [aJ (aAG c b r)];exact r) fun c xs r=>by rw [aJ (aFU c xs r)];exact r
      rcases hc with rfl | hc
      . exact hbe
      . rintro rfl;rcases he with z | z
        . exact aAG c b hc z
        . rw [hc] at z;cases z;exact hb rfl
end
structure Un (fs ex:List Addr) (H H':Hp) (h h':Heap):Prop where
  keep:∀ b o,h.get? b=some o->H b=none->b ∉ fs->b ∉ ex->h'.get? b=some o
  slot:∀ b o,h.get? b=some o->H b=none->b∈fs->b ∉ ex->∃ sl,h'.get? b=some { o with slots:=sl }
  free:∀ b o,h.get? b=some o->H b=none->b ∉ ex->H' b=none
  there:∀ b o,h.get? b=some o->b ∉ ex->∃ o',h'.get? b=some o'
  tups:∀ b xs,H b=some (.tup xs)->H' b=some (.tup xs)
  dI:∀ b o u,H b=some (.nQ o u)->H' b=some (.nQ o u)
  mL:∀ b ps,H b=some (.vB ps)->∃ more,H' b=some (.vB (ps++more))
section
variable {fs fs' ex ex':List Addr} {H H1 H2:Hp} {h h1 h2 h':Heap} {a x e:Addr} {o:HO}
theorem Un.any (u:Un fs ex H H1 h h1) {ob:Obj} (q:h.get? b=some ob) (n:H b=none) (hx:b ∉ ex):∃ sl,h1.get? b=some { ob with slots:=sl }:=by
  by_cases hb:b∈fs
  . exact u.slot b ob q n hb hx
  . exact ⟨ob.slots,u.keep b ob q n hb hx⟩
theorem Un.trans (a:Un fs ex H H1 h h1) (b:Un fs ex H1 H2 h1 h2):Un fs ex H H2 h h2 where
  keep:=fun c ob q n hc hx=>b.keep c ob (a.keep c ob q n hc hx) (a.free c ob q n hx) hc hx
  slot:=fun c ob q n hc hx=>by
    obtain ⟨sl,e1⟩:=a.slot c ob q n hc hx;obtain ⟨sl',e2⟩:=b.slot c _ e1 (a.free c ob q n hx) hc hx;exact ⟨sl',e2⟩
  free:=fun c ob q n hx=>by
    obtain ⟨o',e1⟩:=a.there c ob q hx;exact b.free c o' e1 (a.free c ob q n hx) hx
  there:=fun c ob q hx=>by
    obtain ⟨o',e1⟩:=a.there c ob q hx;exact b.there c o' e1 hx
  tups:=fun c xs q=>b.tups c xs (a.tups c xs q)
  dI:=fun c ob xs q=>b.dI c ob xs (a.dI c ob xs q)
  mL:=fun c ps q=>by
    obtain ⟨m1,e1⟩:=a.mL c ps q;obtain ⟨m2,e2⟩:=b.mL c _ e1;exact ⟨m1++m2,by rw [e2,Array.append_assoc]⟩
theorem Un.kept (k:∀ b u,h.get? b=some u->h'.get? b=some u):Un fs ex H H h h' :=
  ⟨fun b ob q _ _ _=>k b ob q,fun b ob q _ _ _=>⟨ob.slots,k b ob q⟩,fun _ _ _ n _=>n,fun b ob q _=>⟨ob,k b ob q⟩,fun _ _ q=>q,fun _ _ _ q=>q,fun _ ps q=>⟨#[],by rw [q];simp⟩⟩
theorem Un.refl:Un fs ex H H h h:=Un.kept fun _ _ q=>q
theorem Un.laid (k:∀ b u,h.get? b=some u->h'.get? b=some u) (hp:h.objs.size<=a) (hn:H a=none):Un fs ex H (upd H a o) h h' where
  keep:=fun b u q _ _ _=>k b u q
  slot:=fun b u q _ _ _=>⟨u.slots,k b u q⟩
  free:=fun b u q n _=>by rw [aJ (dw (dg (cu q) hp))];exact n
  there:=fun b u q _=>⟨u,k b u q⟩
  tups:=fun b xs q=>by rw [aJ (aR q hn)];exact q
  dI:=fun b u xs q=>by rw [aJ (aR q hn)];exact q
  mL:=fun b ps q=>⟨#[],by rw [aJ (aR q hn),q];simp⟩
theorem Un.write (mu:Mut (H x)) (he:e=x∨H e=some (.own x)) (k:∀ b u,b≠e->h.get? b=some u->h'.get? b=some u) (heo:∃ u,h'.get? e=some u):Un fs ex H (upd H x o) h h':=by
  have hx:∀ b,H b=none->b≠x:=fun b n z=>by subst z;rw [n] at mu;exact mu
  have hb:∀ b,H b=none->b≠e:=fun b n z=>by
    subst z;rcases he with r | r
    . exact hx b n r
    . rw [n] at r;cases r
  have hm:∀ b u,H b=some u->¬ Mut (some u)->b≠x:=fun b u q nm z=>by subst z;rw [q] at mu;exact nm mu
  refine ⟨fun b u q n _ _=>k b u (hb b n) q,fun b u q n _ _=>⟨u.slots,k b u (hb b n) q⟩,fun b u q n _=>by rw [aJ (hx b n)];exact n,fun b u q _=>?_,
    fun b xs q=>by rw [aJ (hm b _ q fun z=>z)];exact q,fun b u xs q=>by rw [aJ (hm b _ q fun z=>z)];exact q,fun b ps q=>⟨#[],by rw [aJ (hm b _ q fun z=>z),q];simp⟩⟩
  by_cases hbe:b=e
  . subst hbe;exact heo
  . exact ⟨u,k b u hbe q⟩
theorem Un.mono (u:Un fs ex H H1 h h1) (hs:∀ b∈fs,b∈fs') (hx:∀ b∈ex,b∈ex'):Un fs' ex' H H1 h h1 :=
  ⟨fun b ob q n hb he=>u.keep b ob q n (fun z=>hb (hs b z)) fun z=>he (hx b z),fun _ _ q n _ he=>u.any q n fun z=>he (hx _ z),fun b ob q n he=>u.free b ob q n fun z=>he (hx b z),fun b ob q he=>u.there b ob q fun z=>he (hx b z),u.tups,u.dI,u.mL⟩
end
noncomputable def trk (h:Heap) (H:Hp):List Addr:=(gk h.objs.size).filter fun a=>(H a).isSome
noncomputable def a3U (h:Heap) (H:Hp):Heap:=zf h (trk h H)
theorem ahS (h:Heap) (H:Hp):(a3U h H).objs.size=h.objs.size:=PySem.W.hideAll_size _ _
theorem aaY (e:h.get? b=some o) (n:H b=none):(a3U h H).get? b=some o :=
  PySem.W.hideAll_get _ e fun hm=>by
    have q:(H b).isSome=true:=(vp.mp hm).2;rw [n] at q;simp at q
theorem ao4 (e:(a3U h H).get? b=some o):h.get? b=some o/\H b=none:=by
  have e':h.get? b=some o:=PySem.W.of_hideAll (trk h H) e;refine ⟨e',?_⟩;cases q:H b with
  | none=>rfl
  | some x =>
    have hm:b∈trk h H:=vp.mpr ⟨ni.mpr (cu e'),by simp [q]⟩;have z:(a3U h H).get? b=none:=PySem.W.hideAll_none (trk h H) hm;rw [z] at e;cases e
noncomputable def ao5 (g h:Heap) (L:Addr):List (Addr×Obj):=(gk h.objs.size).filterMap fun a=>if a=L∨(g.get? a).isSome=true then none else (h.get? a).map fun o=>(a,o)
noncomputable def rest (g h:Heap) (L d:Addr):List (Addr×Obj):=(ao5 g h L).filter fun p=>decide (p.1≠d)
end
variable {v:V}{u:Value}{H H':Hp}{A:Around}{g':Array GenState}{t' j:Nat}{d':Drawn}{ch:List Addr}{N:List Str}{M:Model}{E:Value->Shared->Prop}{e:Expr}{s:Shared}
section
structure Mod (K:bx) (mg:Str->Option Value) (base:Heap):Prop where
  kin:K.In base
  glob:base.Ns mainGlobals mg
  blt:∃ mb,base.Ns builtinsNs mb/\∀ x:Str,x ≠ "__name__" -> mb x=bootBuiltins x
  nolimit:base.NoLimit
structure Cx where
  prog:Program
  w:World
  K:bx
  mg:Str->Option Value
  base:Heap
  A:Around
  N:List Str
  s₀:Shared
  H₀:Hp
  env:Env
  outer:List Env
  stack:List Env
  ex:List Addr
  fn:Str->Bool
  calm:Bool
  pn:List (Addr×Obj)
  tp:List (Addr×List V)
  xe:Value->Shared->Prop
  need:Bool:=false
noncomputable def frs (l:List Env):List Addr:=l.filterMap (·.frame)
noncomputable abbrev Cx.fs (X:Cx):List Addr:=frs X.outer
noncomputable def Vis (sc:Scope) (x:Str):Prop:=sc.names.lookup x=some .local∨sc.names.lookup x=some .cell∨sc.names.lookup x=some .free
noncomputable def Loc (sc:Scope) (x:Str):Prop:=sc.names.lookup x=some .local∨sc.names.lookup x=some .cell
noncomputable def Look (env:Env) (h:Heap) (m:Str->Option Value) (x:Str) (u:Value):Prop :=
  (env.kindOf x=some .local/\m x=some u)∨((env.kindOf x=some .cell∨env.kindOf x=some .free)/\∃ c,env.cells.lookup x=some c/\h.IsCell c (some u))
structure Cx.Ok (X:Cx):Prop where
  mod:Mod X.K X.mg X.base
  kind:X.env.scope.kind = .function
  glob:X.env.globals=mainGlobals
  blt:X.env.builtins=builtinsNs
  above:X.s₀.heap.objs.size<=X.env.locals
  inj:∀ x y c,X.env.cells.lookup x=some c->X.env.cells.lookup y=some c->x=y
  has:∀ x,(X.env.kindOf x=some .cell∨X.env.kindOf x=some .free)->∃ c,X.env.cells.lookup x=some c
  cab:∀ x c,X.fn x=true->X.env.cells.lookup x=some c->X.s₀.heap.objs.size<=c
  hd:X.calm=true->X.A.handled=none
  frames:X.A.frames=some X.stack
  stk:X.stack=X.outer∨(X.stack=X.env :: X.outer/\X.env.frame=some X.env.locals)
  exf:∀ b∈X.ex,b≠X.env.locals/\∀ x c,X.env.cells.lookup x=some c->c≠b
  bs:∀ b o,X.base.get? b=some o->X.s₀.heap.get? b=some o/\X.H₀ b=none
  bsz:X.base.objs.size<=X.s₀.heap.objs.size
  a2V:∀ b o,X.base.get? b=some o->b ∉ X.ex
  a3V:∀ b∈X.ex,b ∉ X.fs
  mQ:X.s₀.heap.FunFrames X.base X.outer
  frf:∀ b∈X.fs,X.H₀ b=none
noncomputable def Hnd (A:Around) (H:Hp):Prop:=A.handled=none∨∃ x o u vs,A.handled=some (.ref x)/\H x=some (.nQ o u)/\o.data = .fields vs/\vs[2]?=some .none
theorem Hnd.mono (h:Hnd A H) (f:∀ b o u,H b=some (.nQ o u)->H' b=some (.nQ o u)):Hnd A H':=by
  rcases h with z | ⟨x,o,u,vs,a,b,c⟩
  . exact .inl z
  . exact .inr ⟨x,o,u,vs,a,f _ _ _ b,c⟩
theorem Hnd.heap {w:World} (q:Hnd A H) (hok:qL P w H h):a6V A h:=by
  rcases q with z | ⟨x,o,u,vs,a,b,c⟩
  . exact .inl z
  . exact .inr ⟨x,o,vs,a,(hok x _ b).1,c⟩
structure Inv (X:Cx) (pins:List (Addr×Obj)) (σ:List (Option V)) (H:Hp) (s:Shared):Prop where
  ok:X.Ok
  os:s.os=X.s₀.os
  bare:AllBare s.gens
  base:Un X.fs X.ex X.H₀ H X.s₀.heap s.heap
  loc:∃ m,s.heap.Ns X.env.locals m/\∀ (i:Nat) (x:Str) (v:V),X.N[i]?=some x->σ[i]?=some (some v)->Vis X.env.scope x->∃ u,RelV v u/\Look X.env s.heap m x u
  cell:∀ x c,X.env.cells.lookup x=some c->∃ v,s.heap.IsCell c v
  free:H X.env.locals=none
  fZ:∀ x c,X.env.cells.lookup x=some c->H c=none
  pin:∀ p∈X.pn++pins,s.heap.get? p.1=some p.2/\H p.1=none/\p.1≠X.env.locals/\p.1 ∉ X.fs/\∀ v,p.2.data ≠ .cell v
  hok:qL X.prog X.w H s.heap
  len:σ.length=X.N.length
  hnd:Hnd X.A H
  tup:∀ p∈X.tp,H p.1=some (.tup p.2)
variable {Q:Unit->Shared->Prop}
section
variable {X:Cx} {pins:List (Addr×Obj)} {σ:List (Option V)} {H H':Hp} {s:Shared} {h':Heap}
theorem Cx.Ok.aFV (ok:X.Ok) (e:X.base.get? b=some o):b ∉ X.fs:=fun hb=>by
  have:=(ok.mQ.mem hb).1;rw [e] at this;cases this
theorem Inv.bs (I:Inv X pins σ H s):∀ b o,X.base.get? b=some o->s.heap.get? b=some o/\H b=none:=fun b o e =>
  ⟨I.base.keep b o (I.ok.bs b o e).1 (I.ok.bs b o e).2 (I.ok.aFV e) (I.ok.a2V b o e),I.base.free b o (I.ok.bs b o e).1 (I.ok.bs b o e).2 (I.ok.a2V b o e)⟩
theorem Inv.bk (I:Inv X pins σ H s):∀ b o,X.base.get? b=some o->s.heap.get? b=some o:=fun b o e=>(I.bs b o e).1
theorem Inv.mod (I:Inv X pins σ H s):Mod X.K X.mg X.base:=I.ok.mod
theorem Inv.kIn (I:Inv X pins σ H s):X.K.In s.heap:=I.ok.mod.kin.keeps I.bk
theorem Inv.nolimit (I:Inv X pins σ H s):s.heap.NoLimit:=I.ok.mod.nolimit.keeps I.bk
theorem Inv.fr (I:Inv X pins σ H s):∃ m,Fr X.base X.env.locals s.heap m :=
  let ⟨m,hn,_⟩:=I.loc
  ⟨m,hn,I.bk,jd I.ok.bsz I.ok.above⟩
theorem Inv.lt (I:Inv X pins σ H s):X.env.locals < s.heap.objs.size:=let ⟨_,hn,_⟩:=I.loc;hn.lt
theorem Inv.sz (I:Inv X pins σ H s):X.s₀.heap.objs.size<=s.heap.objs.size:=jd I.ok.above (nj I.lt)
theorem Inv.aFW (I:Inv X pins σ H s) (h:s.heap.objs.size<=a):a ∉ X.fs:=fun hb=>by
  obtain ⟨_,o,ho,_⟩:=I.ok.mQ.mem hb;exact absurd (dg (cu ho) (jd I.sz h)) (mj _)
theorem Inv.cne (I:Inv X pins σ H s):∀ x c,X.env.cells.lookup x=some c->c≠X.env.locals:=fun x c e z=>by
  obtain ⟨v,o,ho,hd⟩:=I.cell x c e;obtain ⟨m,⟨o',es,ep,ho',hd',_⟩,_⟩:=I.loc;rw [z,ho'] at ho;cases ho;rw [hd'] at hd;cases hd
theorem Inv.mQ (I:Inv X pins σ H s):s.heap.FunFrames X.base X.outer:=by
  have all:∀ (l:List Env),(∀ b∈frs l,b∈X.fs)->X.s₀.heap.FunFrames X.base l->s.heap.FunFrames X.base l:=by
    intro l
    induction l with
    | nil=>intro _ _;trivial
    | cons env r ih =>
      intro hs hl;obtain ⟨hk,⟨L,o,hf,hn,ho,hd⟩,hr⟩:=hl;have hL:L∈X.fs:=hs L (by unfold frs;rw [vo,hf];exact qj);obtain ⟨sl,e⟩:=I.base.slot L o ho (I.ok.frf L hL) hL fun z=>I.ok.a3V L z hL;exact ⟨hk,⟨L,_,hf,hn,e,hd⟩,ih (fun b hb=>hs b (by unfold frs;rw [vo,hf];exact iw _ hb)) hr⟩
  exact all X.outer (fun _ hb=>hb) I.ok.mQ
theorem Inv.stack (I:Inv X pins σ H s):s.heap.FunFrames X.base X.stack:=by
  rcases I.ok.stk with e | ⟨e,hf⟩
  . rw [e];exact I.mQ
  . rw [e];obtain ⟨m,hn,_⟩:=I.loc;refine .cons (by rw [I.ok.kind];decide) hf hn ?_ I.mQ;exact Heap.get?_none_of_le (jd I.ok.bsz I.ok.above)
theorem Inv.adD (I:Inv X pins σ H s):∀ b∈frs X.stack,b∈X.env.locals :: X.fs:=fun b hb=>by
  rcases I.ok.stk with e | ⟨e,hf⟩
  . rw [e] at hb;exact iw _ hb
  . rw [e] at hb;unfold frs at hb;rw [vo,hf] at hb;exact hb
theorem Inv.a8Z (I:Inv X pins σ H s):∀ b∈frs X.stack,H b=none:=fun b hb=>by
  rcases jq.mp (I.adD b hb) with e | hb
  . rw [e];exact I.free
  . obtain ⟨_,o,ho,_⟩:=I.ok.mQ.mem hb;exact I.base.free b o ho (I.ok.frf b hb) fun z=>I.ok.a3V b z hb
theorem Inv.step (I:Inv X pins σ H s)
    (hch:∀ b∈ch,(b∈X.ex∨X.s₀.heap.objs.size<=b)/\b≠X.env.locals/\(∀ x c,X.env.cells.lookup x=some c->c≠b)/\∀ p∈X.pn++pins,p.1≠b)
    (keep:∀ b o,b≠X.env.locals->b ∉ X.fs->b ∉ ch->s.heap.get? b=some o->H b=none->h'.get? b=some o)
    (slot:∀ b o,b≠X.env.locals->b∈X.fs->b ∉ ch->s.heap.get? b=some o->H b=none->∃ sl,h'.get? b=some { o with slots:=sl }) (free:∀ b o,b ∉ ch->s.heap.get? b=some o->H b=none->H' b=none)
    (there:∀ b o,b ∉ ch->s.heap.get? b=some o->∃ o',h'.get? b=some o')
    (tups:∀ b xs,H b=some (.tup xs)->H' b=some (.tup xs)) (dI:∀ b o u,H b=some (.nQ o u)->H' b=some (.nQ o u)) (mL:∀ b ps,H b=some (.vB ps)->∃ more,H' b=some (.vB (ps++more)))
    (ns:∀ m,s.heap.Ns X.env.locals m->h'.Ns X.env.locals m) (hok:qL X.prog X.w H' h') (hg:AllBare g') :
    Inv X pins σ H' { s with heap:=h',gens:=g',drawn:=d',toks:=t' }:=by
  have neL:∀ b o,X.s₀.heap.get? b=some o->b≠X.env.locals:=fun b o e=>dw (dg (cu e) I.ok.above)
  have neC:∀ b o,X.s₀.heap.get? b=some o->b ∉ X.ex->b ∉ ch:=fun b o e hx hb=>by
    rcases (hch b hb).1 with z | z
    . exact hx z
    . exact absurd (dg (cu e) z) (mj _)
  have cellK:∀ x c,X.env.cells.lookup x=some c->∀ v,s.heap.IsCell c v->h'.IsCell c v:=fun x c e v ⟨o,ho,hd⟩=>by
    have nch:c ∉ ch:=fun z=>(hch c z).2.2.1 x c e rfl;by_cases hc:c∈X.fs
    . obtain ⟨sl,q⟩:=slot c o (I.cne x c e) hc nch ho (I.fZ x c e);exact ⟨_,q,hd⟩
    . exact ⟨o,keep c o (I.cne x c e) hc nch ho (I.fZ x c e),hd⟩
  refine ⟨I.ok,I.os,hg,⟨fun b o e n hb hx=>?_,fun b o e n hb hx=>?_,fun b o e n hx=>?_,fun b o e hx=>?_,fun b xs e=>tups b xs (I.base.tups b xs e),fun b o xs e=>dI b o xs (I.base.dI b o xs e),fun b ps e=>?_⟩,?_,fun x c e=>?_,?_,fun x c e=>?_,fun p hp=>?_,hok,I.len,I.hnd.mono dI,fun p hp=>tups _ _ (I.tup p hp)⟩
  . exact keep b o (neL b o e) hb (neC b o e hx) (I.base.keep b o e n hb hx) (I.base.free b o e n hx)
  . obtain ⟨sl,e1⟩:=I.base.slot b o e n hb hx;obtain ⟨sl',e2⟩:=slot b _ (neL b o e) hb (neC b o e hx) e1 (I.base.free b o e n hx);exact ⟨sl',e2⟩
  . obtain ⟨o',e1⟩:=I.base.there b o e hx;exact free b o' (neC b o e hx) e1 (I.base.free b o e n hx)
  . obtain ⟨o',e1⟩:=I.base.there b o e hx;exact there b o' (neC b o e hx) e1
  . obtain ⟨m1,e1⟩:=I.base.mL b ps e;obtain ⟨m2,e2⟩:=mL b _ e1;exact ⟨m1++m2,by rw [e2,Array.append_assoc]⟩
  . obtain ⟨m,hn,hl⟩:=I.loc;refine ⟨m,ns m hn,fun i x v e1 e2 e3=>?_⟩;obtain ⟨u,r,l⟩:=hl i x v e1 e2 e3;refine ⟨u,r,?_⟩;rcases l with l | ⟨k,c,e,z⟩
    . exact .inl l
    . exact .inr ⟨k,c,e,cellK x c e _ z⟩
  . obtain ⟨v,z⟩:=I.cell x c e;exact ⟨v,cellK x c e v z⟩
  . obtain ⟨m,⟨o,_,_,ho,_⟩,_⟩:=I.loc;exact free _ o (fun z=>(hch _ z).2.1 rfl) ho I.free
  . obtain ⟨v,o,ho,hd⟩:=I.cell x c e;exact free c o (fun z=>(hch c z).2.2.1 x c e rfl) ho (I.fZ x c e)
  . obtain ⟨e,n,ne,nf,d⟩:=I.pin p hp;have nch:p.1 ∉ ch:=fun z=>(hch p.1 z).2.2.2 p hp rfl;exact ⟨keep p.1 p.2 ne nf nch e n,free p.1 p.2 nch e n,ne,nf,d⟩
theorem Inv.un (I:Inv X pins σ H s) (u:Un X.fs [] H H' s.heap h') (hok:qL X.prog X.w H' h'):Inv X pins σ H' { s with heap:=h',toks:=t' }:=by
  obtain ⟨m,⟨o,es,ep,ho,r⟩,_⟩:=id I.loc;obtain ⟨sl,hL⟩:=u.any ho I.free (by simp)
  exact I.step (g':=s.gens) (d':=s.drawn) (ch:=[]) (fun _ z=>nomatch z) (fun b o _ hb _ e n=>u.keep b o e n hb (by simp)) (fun b o _ hb _ e n=>u.slot b o e n hb (by simp)) (fun b o _ e n=>u.free b o e n (by simp)) (fun b o _ e=>u.there b o e (by simp)) u.tups u.dI u.mL (fun m' hm=>by
    obtain ⟨o',es',ep',ho',r'⟩:=hm;rw [ho] at ho';cases ho';exact ⟨_,es',ep',hL,r'⟩) hok I.bare
theorem Inv.call (I:Inv X pins σ H s) (u:Un (frs X.stack) ch H H' s.heap h') (hok:qL X.prog X.w H' h') (hg:AllBare g')
    (hch:∀ b∈ch,(b∈X.ex∨X.s₀.heap.objs.size<=b)/\b≠X.env.locals/\(∀ x c,X.env.cells.lookup x=some c->c≠b)/\∀ p∈X.pn++pins,p.1≠b) :
    Inv X pins σ H' { s with heap:=h',gens:=g',drawn:=d',toks:=t' }:=by
  obtain ⟨m,⟨o,es,ep,ho,r⟩,_⟩:=id I.loc;obtain ⟨sl,hL⟩:=u.any ho I.free fun z=>(hch _ z).2.1 rfl
  exact I.step (ch:=ch) hch (fun b o hL hb hc e n=>u.keep b o e n (fun z=>(jq.mp (I.adD b z)).elim hL hb) hc) (fun b o _ _ hc e n=>u.any e n hc) (fun b o hc e n=>u.free b o e n hc) (fun b o hc e=>u.there b o e hc) u.tups u.dI u.mL (fun m' hm=>by
    obtain ⟨o',es',ep',ho',r'⟩:=hm;rw [ho] at ho';cases ho';exact ⟨_,es',ep',hL,r'⟩) hok hg
theorem Inv.turned (I:Inv X pins σ H s) (k:∀ b o,b≠it->s.heap.get? b=some o->h'.get? b=some o) (hn:H it=none) (hL:it≠X.env.locals)
    (h1:it∈X.ex∨X.s₀.heap.objs.size<=it) (h2:∀ x c,X.env.cells.lookup x=some c->c≠it) (h3:∀ p∈X.pn++pins,p.1≠it):Inv X pins σ H { s with heap:=h',toks:=t' }:=by
  have nit:∀ b u,H b=some u->b≠it:=fun b u e z=>by rw [z,hn] at e;cases e
  refine I.step (g':=s.gens) (d':=s.drawn) (ch:=[it]) (fun b hb=>?_) (fun b o _ _ hc e _=>k b o (fun z=>hc (by simp [z])) e) (fun b o _ _ hc e _=>⟨o.slots,k b o (fun z=>hc (by simp [z])) e⟩) (fun _ _ _ _ n=>n)
    (fun b o hc e=>⟨o,k b o (fun z=>hc (by simp [z])) e⟩) (fun _ _ e=>e) (fun _ _ _ e=>e) (fun b ps e=>⟨#[],by rw [e];simp⟩) (fun m hm=>?_) (fun b u e=>?_) I.bare
  . have e:b=it:=by simpa using hb
    subst e;exact ⟨h1,hL,h2,h3⟩
  . obtain ⟨o,es,ep,ho,r⟩:=hm;exact ⟨o,es,ep,k _ o (Ne.symm hL) ho,r⟩
  . refine (I.hok b u e).stay (fun c v hc q=>k c v ?_ q) (fun _ q=>q) fun _ _ q=>q;rcases hc with z | z
    . rw [z];exact nit b u e
    . exact nit c _ z
theorem Inv.tok (I:Inv X pins σ H s) (t:Nat):Inv X pins σ H { s with toks:=t }:=I.un (h':=s.heap) (t':=t) Un.refl I.hok
theorem Inv.kept {t':Nat} (I:Inv X pins σ H s) (k:∀ b u,s.heap.get? b=some u->h'.get? b=some u):Inv X pins σ H { s with heap:=h',toks:=t' }:=I.un (Un.kept k) (I.hok.kept k)
theorem Inv.laid {a:Addr} {o:HO} {t':Nat} (I:Inv X pins σ H s) (k:∀ b u,s.heap.get? b=some u->h'.get? b=some u) (hp:s.heap.objs.size<=a) (new:dG X.prog X.w (upd H a o) h' a o) :
    Inv X pins σ (upd H a o) { s with heap:=h',toks:=t' }:=I.un (Un.laid k hp (I.hok.fresh hp)) (I.hok.laid k hp new)
theorem Inv.write {x e:Addr} {o:HO} {t':Nat} (I:Inv X pins σ H s) (mu:Mut (H x)) (he:e=x∨H e=some (.own x)) (k:∀ b u,b≠e->s.heap.get? b=some u->h'.get? b=some u) (heo:∃ u,h'.get? e=some u)
    (new:dG X.prog X.w (upd H x o) h' x o):Inv X pins σ (upd H x o) { s with heap:=h',toks:=t' }:=I.un (Un.write mu he k heo) (I.hok.write mu he k heo new)
theorem Inv.weak {σ':List (Option V)} (I:Inv X pins σ H s) (hl:σ'.length=σ.length) (w:∀ (i:Nat) v,σ'[i]?=some (some v)->σ[i]?=some (some v)):Inv X pins σ' H s :=
  ⟨I.ok,I.os,I.bare,I.base,let ⟨m,hn,hl'⟩:=I.loc;⟨m,hn,fun i x v e1 e2 e3=>hl' i x v e1 (w i v e2) e3⟩,I.cell,I.free,I.fZ,I.pin,I.hok,hl.trans I.len,I.hnd,I.tup⟩
theorem Inv.afD {vC:List (Addr×Obj)} (I:Inv X pins σ H s) (h:∀ p∈vC,s.heap.get? p.1=some p.2/\H p.1=none/\p.1≠X.env.locals/\p.1 ∉ X.fs/\∀ v,p.2.data ≠ .cell v):Inv X vC σ H s :=
  ⟨I.ok,I.os,I.bare,I.base,I.loc,I.cell,I.free,I.fZ,fun p hp=>(qx.mp hp).elim (fun z=>I.pin p (vg _ z)) (h p),I.hok,I.len,I.hnd,I.tup⟩
theorem a3W (hN:N.Nodup) (a:N[i]?=some x) (b:N[j]?=some x):i=j:=by
  obtain ⟨h1,e1⟩:=cj.mp a;obtain ⟨h2,e2⟩:=cj.mp b;exact (List.getElem_inj hN).mp (e1.trans e2.symm)
theorem a7S (I:Inv X pins σ H s) (hN:X.N.Nodup) (hi:X.N[i]?=some x) (hx:Loc X.env.scope x) (r:RelV v u)
    (h:∀ s',Inv X pins (σ.set i (some v)) H s'->(∃ a,iy a s.heap s'.heap/\(a=X.env.locals∨X.env.cells.lookup x=some a))->Q () s') (hf:X.fn x=true∨X.env.scope.names.lookup x=some .local:=by first | exact .inl rfl | exact .inr rfl | assumption):wpAny M A (storeName X.env x u) Q E s:=by
  obtain ⟨m,hn,hl⟩:=id I.loc;have hcls:(X.env.scope.kind == .class || (X.env.scope.kind == .module&&X.env.locals != X.env.globals))=false:=by rw [I.ok.kind];rfl
  have hiσ:i < σ.length:=by rw [I.len];exact (cj.mp hi).1
  have cne:=I.cne
  have tracked:∀ {a:Addr} {h':Heap},(∃ o,s.heap.get? a=some o/\H a=none)->iy a s.heap h'->qL X.prog X.w H h':=fun {a h'} ha hs b ob e=>by
    obtain ⟨_,_,hfree⟩:=ha;refine (I.hok b ob e).stay (fun c w' hc q=>(hs.2 c ?_).trans q) (fun _ q=>q) fun _ _ q=>q;rintro rfl;rcases hc with rfl | hc
    . rw [hfree] at e;cases e
    . rw [hfree] at hc;cases hc
  rcases hx with hk | hk
  . refine wpAny_storeName_local hk hn (fun h' hn' hs=>?_) hcls;obtain ⟨oL,_,_,hoL,_⟩:=id hn;refine h _ ⟨I.ok,I.os,I.bare,⟨fun b o e n hb hx=>?_,fun b o e n hb hx=>?_,I.base.free,fun b o e hx=>?_,I.base.tups,I.base.dI,I.base.mL⟩,⟨_,hn',fun j y v' e1 e2 e3=>?_⟩,fun y c e=>?_,I.free,I.fZ,fun p hp=>?_,tracked ⟨oL,hoL,I.free⟩ hs,by simpa using I.len,I.hnd,I.tup⟩ ⟨_,hs,.inl rfl⟩
    . exact (hs.2 b (dw (dg (cu e) I.ok.above))).trans (I.base.keep b o e n hb hx)
    . obtain ⟨sl,e1⟩:=I.base.slot b o e n hb hx;exact ⟨sl,(hs.2 b (dw (dg (cu e) I.ok.above))).trans e1⟩
    . obtain ⟨o',e1⟩:=I.base.there b o e hx;exact ⟨o',(hs.2 b (dw (dg (cu e) I.ok.above))).trans e1⟩
    . by_cases hj:j=i
      . subst hj;rw [hi] at e1;cases e1;rw [yd hiσ] at e2;cases e2;exact ⟨u,r,.inl ⟨hk,by simp⟩⟩
      . rw [zj (Ne.symm hj)] at e2;obtain ⟨u',r',q⟩:=hl j y v' e1 e2 e3;refine ⟨u',r',?_⟩;rcases q with ⟨k,e⟩ | ⟨k,c,e,z⟩
        . refine .inl ⟨k,?_⟩;have:y≠x:=fun e=>hj (a3W hN e1 (e ▸ hi));simp [this,e]
        . exact .inr ⟨k,c,e,z.sameBut hs (cne y c e)⟩
    . obtain ⟨w',z⟩:=I.cell y c e;exact ⟨w',z.sameBut hs (cne y c e)⟩
    . obtain ⟨e,n,ne,nf,d⟩:=I.pin p hp;exact ⟨(hs.2 p.1 ne).trans e,n,ne,nf,d⟩
  . have hfn:X.fn x=true:=by
      rcases hf with z | z
      . exact z
      . rw [z] at hk;cases hk
    obtain ⟨c,hc⟩:=I.ok.has x (.inl hk);obtain ⟨w',z⟩:=I.cell x c hc;refine wpAny_storeName_cell I.ok.kind hk hc z (fun h' hc' hs=>?_);obtain ⟨oc,hoc,aFX⟩:=id z;refine h { s with heap:=h' } ⟨I.ok,I.os,I.bare,⟨fun b o e n hb hx=>?_,fun b o e n hb hx=>?_,I.base.free,fun b o e hx=>?_,I.base.tups,I.base.dI,I.base.mL⟩,⟨m,hn.sameBut hs (Ne.symm (cne x c hc)),fun j y v' e1 e2 e3=>?_⟩,fun y c' e=>?_,I.free,I.fZ,fun p hp=>?_,tracked ⟨oc,hoc,I.fZ x c hc⟩ hs,by simpa using I.len,I.hnd,I.tup⟩ ⟨c,hs,.inr hc⟩
    . exact (hs.2 b (dw (dg (cu e) (I.ok.cab x c hfn hc)))).trans (I.base.keep b o e n hb hx)
    . obtain ⟨sl,e1⟩:=I.base.slot b o e n hb hx;exact ⟨sl,(hs.2 b (dw (dg (cu e) (I.ok.cab x c hfn hc)))).trans e1⟩
    . obtain ⟨o',e1⟩:=I.base.there b o e hx;exact ⟨o',(hs.2 b (dw (dg (cu e) (I.ok.cab x c hfn hc)))).trans e1⟩
    . by_cases hj:j=i
      . subst hj;rw [hi] at e1;cases e1;rw [yd hiσ] at e2;cases e2;exact ⟨u,r,.inr ⟨.inl hk,c,hc,hc'⟩⟩
      . rw [zj (Ne.symm hj)] at e2;obtain ⟨u',r',q⟩:=hl j y v' e1 e2 e3;refine ⟨u',r',?_⟩;rcases q with q | ⟨k,c',e,z'⟩
        . exact .inl q
        . refine .inr ⟨k,c',e,z'.sameBut hs ?_⟩;rintro rfl;exact hj (a3W hN e1 (I.ok.inj _ _ _ e hc ▸ hi))
    . by_cases hcc:c'=c
      . subst hcc;exact ⟨_,hc'⟩
      . obtain ⟨w2,z2⟩:=I.cell y c' e;exact ⟨w2,z2.sameBut hs hcc⟩
    . obtain ⟨e,n,ne,nf,d⟩:=I.pin p hp;refine ⟨(hs.2 p.1 ?_).trans e,n,ne,nf,d⟩;intro q;rw [q,hoc] at e;have q':oc=p.2:=gw.inj e;exact d w' (by rw [← q'];exact aFX)
theorem vD (I:Inv X pins σ H s) (hN:X.N.Nodup) (hi:X.N[i]?=some x) (hx:Loc X.env.scope x) (r:RelV v u)
    (h:∀ s',Inv X pins (σ.set i (some v)) H s'->Q () s') (hf:X.fn x=true∨X.env.scope.names.lookup x=some .local:=by first | exact .inl rfl | exact .inr rfl | assumption):wpAny M A (storeName X.env x u) Q E s :=
  a7S I hN hi hx r (fun s' I' _=>h s' I') hf
theorem Inv.call' {s':Shared} (I:Inv X pins σ H s) (ho:s'.os=s.os) (u:Un (frs X.stack) ch H H' s.heap s'.heap) (hok:qL X.prog X.w H' s'.heap) (hg:AllBare s'.gens)
    (hch:∀ b∈ch,(b∈X.ex∨X.s₀.heap.objs.size<=b)/\b≠X.env.locals/\(∀ x c,X.env.cells.lookup x=some c->c≠b)/\∀ p∈X.pn++pins,p.1≠b):Inv X pins σ H' s':=by
  obtain ⟨h',g',d',t',o'⟩:=s';have e:o'=s.os:=ho;subst e;exact I.call (g':=g') (t':=t') (d':=d') u hok hg hch
end
noncomputable abbrev XK:=Value->Option Addr->Hp->Prop
noncomputable abbrev St:=List (Option V)
noncomputable abbrev VK:=V->Hp->Prop
noncomputable abbrev TE:=St->Hp->VK->Prop
noncomputable abbrev TT:=St->Hp->(Bool->Hp->Prop)->Prop
noncomputable abbrev TA:=St->Hp->(List V->Hp->Prop)->Prop
structure Ends where
  nx:St->Hp->Prop
  rt:VK
  bk:St->Hp->Prop:=fun _ _=>False
  ct:St->Hp->Prop:=fun _ _=>False
noncomputable abbrev TS:=Ends->St->Hp->Prop
noncomputable def EP (X:Cx) (pins:List (Addr×Obj)) (σ:St) (Q:VK) (u:Value) (s':Shared):Prop:=∃ v H',Inv X pins σ H' s'/\RelV v u/\Q v H'
noncomputable def TP (X:Cx) (pins:List (Addr×Obj)) (σ:St) (Q:Bool->Hp->Prop) (b:Bool) (s':Shared):Prop:=∃ H',Inv X pins σ H' s'/\Q b H'
noncomputable def AP (X:Cx) (pins:List (Addr×Obj)) (σ:St) (Q:List V->Hp->Prop) (us:List Value) (s':Shared):Prop:=∃ vs H',Inv X pins σ H' s'/\Vals vs us/\Q vs H'
noncomputable def SP (X:Cx) (pins:List (Addr×Obj)) (D:Ends) (f:Flow) (s':Shared):Prop :=
  match f with
  | .next=>∃ σ' H',Inv X pins σ' H' s'/\D.nx σ' H'
  | .brk=>∃ σ' H',Inv X pins σ' H' s'/\D.bk σ' H'
  | .cont=>∃ σ' H',Inv X pins σ' H' s'/\D.ct σ' H'
  | .ret u=>∃ v σ' H',Inv X pins σ' H' s'/\RelV v u/\D.rt v H'
class Tk (b:Bool) (s:Shared):Prop where
  pos:b=true->0 < s.toks
class TkI (s:outParam Shared) (s':Shared):Prop where
  imp:0 < s.toks->0 < s'.toks
instance aF1 {b:Bool} {s s':Shared} [i:TkI s s'] [j:Tk b s]:Tk b s':=⟨fun z=>i.imp (j.pos z)⟩
instance aIY {s:Shared}:Tk false s:=⟨fun z=>nomatch z⟩
instance aF2 {b:Bool} {h:Heap} {g:Array GenState} {d:Drawn} {n:Nat} {os}:Tk b ⟨h,g,d,n+1,os⟩:=⟨fun _=>Nat.succ_pos _⟩
instance aF3 {b:Bool} {s:Shared} {h:Heap} {g:Array GenState} {d:Drawn} {os} [j:Tk b s]:Tk b ⟨h,g,d,s.toks,os⟩:=⟨j.pos⟩
noncomputable def PE (X:Cx) (e:Expr) (t:TE):Prop :=
  ∀ (pins:List (Addr×Obj)) (s:Shared) (σ:St) (H:Hp) (Q:VK),Inv X pins σ H s->t σ H Q->[Tk X.need s]->wpAny (model X.prog X.w) X.A (eval e X.env) (EP X pins σ Q) X.xe s
noncomputable def PT (X:Cx) (e:Expr) (t:TT):Prop :=
  ∀ (pins:List (Addr×Obj)) (s:Shared) (σ:St) (H:Hp) (Q:Bool->Hp->Prop),Inv X pins σ H s->t σ H Q->[Tk X.need s]->wpAny (model X.prog X.w) X.A (isTrue e X.env (eval e X.env)) (TP X pins σ Q) X.xe s
noncomputable def PW (X:Cx) (e:Expr) (t:TT):Prop :=
  ∀ (whole:Sem Value) (pins:List (Addr×Obj)) (s:Shared) (σ:St) (H:Hp) (Q:Bool->Hp->Prop),Inv X pins σ H s->t σ H Q->[Tk X.need s]->wpAny (model X.prog X.w) X.A (isTrue e X.env whole) (TP X pins σ Q) X.xe s
theorem PW.pt {X:Cx} {t:TT} (h:PW X e t):PT X e t:=h _
noncomputable def PA (X:Cx) (es:List Expr) (t:TA):Prop :=
  ∀ (pos:Pos) (pins:List (Addr×Obj)) (s:Shared) (σ:St) (H:Hp) (Q:List V->Hp->Prop),Inv X pins σ H s->t σ H Q->[Tk X.need s]->wpAny (model X.prog X.w) X.A (spliced (backTo pos (starEach es X.env))) (AP X pins σ Q) X.xe s
noncomputable def PS (X:Cx) (st:Stmt) (t:TS):Prop :=
  ∀ (pins:List (Addr×Obj)) (s:Shared) (σ:St) (H:Hp) (D:Ends),Inv X pins σ H s->t D σ H->[Tk X.need s]->wpAny (model X.prog X.w) X.A (exec st X.env) (SP X pins D) X.xe s
noncomputable def PSs (X:Cx) (st:List Stmt) (t:TS):Prop :=
  ∀ (pins:List (Addr×Obj)) (s:Shared) (σ:St) (H:Hp) (D:Ends),Inv X pins σ H s->t D σ H->[Tk X.need s]->wpAny (model X.prog X.w) X.A (execs st X.env) (SP X pins D) X.xe s
theorem cR {α:Type} {t:Sem α} {Q Q':α->Shared->Prop} (h:wpAny M A t Q E s) (hQ:∀ a s1,Q a s1->[TkI s s1]->Q' a s1):wpAny M A t Q' E s:=fun Γ p g=>by
  by_cases c:0 < s.toks
  . exact Sem.wp_mono M Γ t (fun a p s' z=>@hQ a s' z.2 ⟨fun _=>z.1⟩) (fun _ _ _ z=>z.2) p s (Sem.wp_toks M Γ 1 t _ _ p s c (h Γ p g))
  . exact Sem.wp_mono M Γ t (fun a p s' z=>@hQ a s' z ⟨fun z=>absurd z c⟩) (fun _ _ _ z=>z) p s (h Γ p g)
end
variable {Q:Value->Shared->Prop}{pins:List (Addr×Obj)}{R:V->V->Hp->Prop}{pos:Pos}{op:CmpOp}{c:Expr}
section
section
variable {X:Cx}
theorem bin {a b:Expr} {ta tb:TE} (ha:PE X a ta) (hb:PE X b tb) {σ:St} [Tk X.need s] (I:Inv X pins σ H s) (h:ta σ H fun x H1=>tb σ H1 fun y H2=>R x y H2)
    {α:Type} {Q:α->Shared->Prop} {f:Value->Value->Sem α}
    (hf:∀ v u s2 x y H2,Inv X pins σ H2 s2->RelV x v->RelV y u->R x y H2->wpAny (model X.prog X.w) X.A (f v u) Q X.xe s2) :
    wpAny (model X.prog X.w) X.A (eval a X.env) (fun v s₁=>wpAny (model X.prog X.w) X.A (eval b X.env) (fun u s₂=>wpAny (model X.prog X.w) X.A (f v u) Q X.xe s₂) X.xe s₁) X.xe s:=by
  refine cR (ha pins s σ H _ I h) fun v s1 ⟨x,H1,I1,r1,q1⟩=>?_;refine cR (hb pins s1 σ H1 _ I1 q1) fun u s2 ⟨y,H2,I2,r2,q2⟩=>?_;exact hf v u s2 x y H2 I2 r1 r2 q2
noncomputable def auL (i:Nat):TE:=fun σ H Q=>∃ v,σ[i]?=some (some v)/\Q v H
noncomputable def tC (v:V):TE:=fun _ H Q=>Q v H
theorem adE (hN:X.N[i]?=some x) (hv:Vis X.env.scope x) (hd:(x == ("__debug__" : Str))=false:=by decide) (hcd:(x == ("__classdict__" : Str))=false:=by decide):PE X (.Name x pos) (auL i):=by
  intro pins s σ H Q I h _tk;obtain ⟨v,e,h⟩:=h;obtain ⟨m,hn,hl⟩:=I.loc;obtain ⟨u,r,l⟩:=hl i x v hN e hv;have fin:EP X pins σ Q u s:=⟨v,H,I,r,h⟩;rcases l with ⟨hk,hm⟩ | ⟨hk,c,hc,hcell⟩
  . exact wpAny_Name (wpAny_loadName_local I.ok.kind hk hn hm fin) hd
  . rcases hk with hk | hk
    . exact wpAny_Name (wpAny_loadName_cell I.ok.kind hk hc hcell fin) hd
    . exact wpAny_Name (wpAny_loadName_free I.ok.kind hk hc hcell fin hcd) hd
theorem auM {i j pos}:PE X (.Constant (.int i) j pos) (tC (.int i)):=fun _ _ _ H _ I h=>wpAny_Constant_int ⟨.int i,H,I.tok _,⟨_,rfl⟩,h⟩
theorem aAI {b j pos}:PE X (.Constant (.bool b) j pos) (tC (.bl b)):=fun _ _ _ H _ I h=>Constant_bool ⟨.bl b,H,I,rfl,h⟩
theorem auN {j pos}:PE X (.Constant .none j pos) (tC .non):=fun _ _ _ H _ I h=>Constant_none ⟨.non,H,I,rfl,h⟩
theorem auO {x j pos}:PE X (.Constant (.str x) j pos) (tC (.str x)):=fun _ _ _ H _ I h=>Calls.Constant_str ⟨.str x,H,I.tok _,⟨_,rfl⟩,h⟩
noncomputable def Gl (X:Cx) (x:Str):Prop:=X.env.kindOf x=some .globalImplicit
theorem jX {σ:St} (I:Inv X pins σ H s) (hg:Gl X x) (hm:X.mg x=some u) (h:Q u s)
    (hd:(x == ("__debug__" : Str))=false:=by decide):wpAny (model X.prog X.w) X.A (eval (.Name x pos) X.env) Q E s :=
  Calls.Name_function_global I.ok.kind hg (Calls.loadGlobal_global (by rw [I.ok.glob];exact I.mod.glob.keeps I.bk) hm h) hd
theorem a3X {σ:St} (I:Inv X pins σ H s) (hg:Gl X x) (hm:X.mg x=none) (hv:bootBuiltins x=some u) (h:Q u s)
    (hn:x ≠ "__name__" := by decide) (hd:(x == ("__debug__" : Str))=false:=by decide):wpAny (model X.prog X.w) X.A (eval (.Name x pos) X.env) Q E s:=by
  obtain ⟨mb,h1,h2⟩:=I.mod.blt;exact Calls.Name_function_global I.ok.kind hg (Calls.loadGlobal_builtin (by rw [I.ok.glob];exact I.mod.glob.keeps I.bk) hm (by rw [I.ok.blt];exact h1.keeps I.bk) ((h2 x hn).trans hv) h) hd
theorem ao7 (hg:Gl X x) (hm:X.mg x=some u) (r:RelV v u) (hd:(x == ("__debug__" : Str))=false:=by decide):PE X (.Name x pos) (tC v) :=
  fun _ _ _ H _ I h=>jX I hg hm ⟨v,H,I,r,h⟩ hd
theorem ao8 (hg:Gl X x) (hm:X.mg x=none) (hv:bootBuiltins x=some u) (r:RelV v u) (hn:x ≠ "__name__" := by decide) (hd:(x == ("__debug__" : Str))=false:=by decide):PE X (.Name x pos) (tC v) :=
  fun _ _ _ H _ I h=>a3X I hg hm hv ⟨v,H,I,r,h⟩ hn hd
variable {a b:Expr} {ta tb:TE} {pos:Pos}
noncomputable def PC (X:Cx) (op:CmpOp) (a b:Expr) (t:TE):Prop :=
  ∀ (pins:List (Addr×Obj)) (s:Shared) (σ:St) (H:Hp) (Q:VK),Inv X pins σ H s->t σ H Q ->
    [Tk X.need s]->wpAny (model X.prog X.w) X.A (eval a X.env) (fun v s₁=>wpAny (model X.prog X.w) X.A (eval b X.env) (fun u s₂=>wpAny (model X.prog X.w) X.A (compareOp op v u) (EP X pins σ Q) X.xe s₂) X.xe s₁) X.xe s
theorem ajF (b:Expr) (h:op ≠ .In) (h2:op ≠ .NotIn):behindInMarks op b=false:=by
  have e1:(op == CmpOp.In)=false:=by cases op <;> first | rfl | exact absurd rfl h
  have e2:(op == CmpOp.NotIn)=false:=by cases op <;> first | rfl | exact absurd rfl h2
  cases b <;> simp [behindInMarks,e1,e2]
noncomputable def tB (t:TE):TT:=fun σ H Q=>t σ H fun x H1=>∃ c,x = .bl c/\Q c H1
theorem aFY {t:TE} (h:PC X op a b t) (h1:behindInMarks op b=false:=by first | exact ajF _ (by decide) (by decide) | rfl):PT X (.Compare a [op] [b] pos) (tB t):=by
  intro pins s σ H Q I hw;refine wpAny_isTrue_Compare1 (cR (h pins s σ H _ I hw) fun v s1 h1=>cR h1 fun u s2 h2=>cR h2 fun c s3 ⟨x,H1,I1,r1,q1⟩=>?_) h1;obtain ⟨d,rfl,q⟩:=q1;cases r1;exact wpAny_truthy_bool ⟨H1,I1,q⟩
theorem auP {t:TE} (h:PE X e t) (he:∀ whole,isTrue e X.env whole=(do let v ← whole;standAt e.pos;holding [v] (truthy v)):=by intro _;rfl):PT X e (tB t):=by
  intro pins s σ H Q I hw;refine isTrue_plain (cR (h pins s σ H _ I hw) fun v s1 ⟨x,H1,I1,r1,q1⟩=>?_) (he _);obtain ⟨d,rfl,q⟩:=q1;cases r1;exact wpAny_truthy_bool ⟨H1,I1,q⟩
variable {tA tB':TT} {rest:List Expr}
noncomputable def aAJ (t u:TT):TT:=fun σ H Q=>t σ H fun c H1=>if c=true then u σ H1 Q else Q false H1
noncomputable def tOr (t u:TT):TT:=fun σ H Q=>t σ H fun c H1=>if c=true then Q true H1 else u σ H1 Q
noncomputable def aFZ (t:TT):TT:=fun σ H Q=>t σ H fun c H1=>Q (!c) H1
theorem ao9 (ha:PT X a tA):PW X (.BoolOp .And [a] pos) tA:=by
  intro wh pins s σ H Q I h;refine isTrue_and (cR (ha pins s σ H Q I h) fun c s1 e=>?_);intro aAK;cases c with
  | true=>exact isTrue_and_nil e
  | false=>exact e
theorem auQ (ha:PT X a tA):PW X (.BoolOp .Or [a] pos) tA:=by
  intro wh pins s σ H Q I h;refine isTrue_or (cR (ha pins s σ H Q I h) fun c s1 e=>?_);intro aKG;cases c with
  | false=>exact isTrue_or_nil e
  | true=>exact e
theorem auR (ha:PT X a tA) (hb:PW X (.BoolOp .And (b :: rest) pos) tB'):PW X (.BoolOp .And (a :: b :: rest) pos) (aAJ tA tB'):=by
  intro wh pins s σ H Q I h;refine isTrue_and (cR (ha pins s σ H _ I h) fun c s1 ⟨H1,I1,q1⟩=>?_);cases c with
  | true=>exact hb wh pins s1 σ H1 Q I1 q1
  | false=>exact ⟨H1,I1,q1⟩
theorem aAL (ha:PT X a tA) (hb:PW X (.BoolOp .Or (b :: rest) pos) tB'):PW X (.BoolOp .Or (a :: b :: rest) pos) (tOr tA tB'):=by
  intro wh pins s σ H Q I h;refine isTrue_or (cR (ha pins s σ H _ I h) fun c s1 ⟨H1,I1,q1⟩=>?_);cases c with
  | true=>exact ⟨H1,I1,q1⟩
  | false=>exact hb wh pins s1 σ H1 Q I1 q1
theorem auS (ha:PT X a tA):PT X (.UnaryOp .Not a pos) (aFZ tA):=by
  intro pins s σ H Q I h _tk;exact isTrue_not (ha pins s σ H (fun c H1=>Q (!c) H1) I h)
noncomputable def aAM (ta tb:TE):TE:=fun σ H Q=>ta σ H fun x H1=>∃ c,x = .bl c/\if c=true then tb σ H1 Q else Q (.bl false) H1
noncomputable def aG0 (ta tb:TE):TE:=fun σ H Q=>ta σ H fun x H1=>∃ c,x = .bl c/\if c=true then Q (.bl true) H1 else tb σ H1 Q
noncomputable def aAN (ta:TE):TE:=fun σ H Q=>ta σ H fun x H1=>∃ c,x = .bl c/\Q (.bl (!c)) H1
theorem auT {op} {t:TE} (h:PE X a t):PE X (.BoolOp op [a] pos) t:=fun pins s σ H Q I hw=>BoolOp_one (h pins s σ H Q I hw)
theorem auU (ha:PE X a ta) (hb:PE X (.BoolOp .And (b :: rest) pos) tb):PE X (.BoolOp .And (a :: b :: rest) pos) (aAM ta tb):=by
  intro pins s σ H Q I h _tk;refine BoolOp_and (cR (ha pins s σ H _ I h) fun v s1 ⟨x,H1,I1,r1,q1⟩=>?_);obtain ⟨c,rfl,q1⟩:=q1;cases r1;refine wpAny_truthy_bool ?_;cases c with
  | true=>exact hb pins s1 σ H1 Q I1 q1
  | false=>exact ⟨.bl false,H1,I1,rfl,q1⟩
theorem aAO (ha:PE X a ta) (hb:PE X (.BoolOp .Or (b :: rest) pos) tb):PE X (.BoolOp .Or (a :: b :: rest) pos) (aG0 ta tb):=by
  intro pins s σ H Q I h _tk;refine BoolOp_or (cR (ha pins s σ H _ I h) fun v s1 ⟨x,H1,I1,r1,q1⟩=>?_);obtain ⟨c,rfl,q1⟩:=q1;cases r1;refine wpAny_truthy_bool ?_;cases c with
  | false=>exact hb pins s1 σ H1 Q I1 q1
  | true=>exact ⟨.bl true,H1,I1,rfl,q1⟩
theorem auV (ha:PE X a ta):PE X (.UnaryOp .Not a pos) (aAN ta):=by
  intro pins s σ H Q I h _tk;refine UnaryOp_ (cR (ha pins s σ H _ I h) fun v s1 ⟨x,H1,I1,r1,q1⟩=>?_);obtain ⟨c,rfl,q1⟩:=q1;cases r1;exact not_of (wpAny_truthy_bool ⟨.bl (!c),H1,I1,rfl,q1⟩)
noncomputable def tIf (t:TT) (ta tb:TE):TE:=fun σ H Q=>t σ H fun c H1=>if c=true then ta σ H1 Q else tb σ H1 Q
theorem ajG (hc:PT X c tA) (ha:PE X a ta) (hb:PE X b tb):PE X (.IfExp c a b pos) (tIf tA ta tb):=by
  intro pins s σ H Q I h _tk;refine wpAny_IfExp (cR (hc pins s σ H _ I h) fun d s1 ⟨H1,I1,q1⟩=>?_);cases d with
  | true=>exact ha pins s1 σ H1 Q I1 q1
  | false=>exact hb pins s1 σ H1 Q I1 q1
end
end
variable {X:Cx}{tb:TS}{tc:TT}{es:List Expr}{n:Nat}{tg:Expr}{te:TE}{pos':Pos}{body:List Stmt}{cm:Bool}{tl:List (Addr×List V)}
section
noncomputable def yG (K:bx) (H:Hp) (a:Addr) (xs:List V):Prop :=
  Rd H a (.lst xs) ∨
    ∃ (o:Obj) (its:Array Value) (n:Nat),K.lookup a=some o/\o.cls = .type "list" /\ o.dict=none/\o.data = .seq its n/\its.size<=sizeLine/\Vals xs its.toList
noncomputable def uL (K:bx) (H:Hp) (a:Addr) (xs:List V):Prop :=
  Rd H a (.tup xs) ∨
    ∃ (o:Obj) (its:Array Value) (n:Nat),K.lookup a=some o/\o.cls = .type "tuple" /\ o.dict=none/\o.data = .seq its n/\its.size<=sizeLine/\Vals xs its.toList
noncomputable def aG1:Value->Option V
  | .none=>some .non
  | .bool b=>some (.bl b)
  | .int i _=>some (.int i)
  | .str x _=>some (.str x)
  | .bytes b _=>some (.byt b)
  | .float b _=>some (.flt b)
  | .ref a=>some (.ref a)
  | .type n=>some (.ty n)
  | _=>none
theorem RelV.abs {x:V} (r:RelV x u):aG1 u=some x:=by
  cases x with
  | non=>cases r;rfl
  | bl _=>cases r;rfl
  | int _=>obtain ⟨t,rfl⟩:=r;rfl
  | str _=>obtain ⟨t,rfl⟩:=r;rfl
  | byt _=>obtain ⟨t,rfl⟩:=r;rfl
  | flt _=>obtain ⟨t,rfl⟩:=r;rfl
  | ref _=>cases r;rfl
  | ty _=>cases r;rfl
theorem RelV.inj {x y:V} {u:Value} (r:RelV x u) (q:RelV y u):x=y:=gw.inj (r.abs.symm.trans q.abs)
theorem Vals.inj:∀ {xs ys:List V} {us:List Value},Vals xs us->Vals ys us->xs=ys
  | _,_,_,.nil,.nil=>rfl
  | _,_,_,.cons r t,.cons r' t'=>by rw [r.inj r',Vals.inj t t']
section
variable {X:Cx} {pins:List (Addr×Obj)} {σ:St} {H:Hp} {s:Shared} {a:Addr} {xs ys:List V}
theorem yG.of {K:bx} (h:H a=some (.lst xs)):yG K H a xs := .inl (.inl h)
theorem uL.of {K:bx} (h:H a=some (.tup xs)):uL K H a xs := .inl (.inl h)
theorem Inv.list (I:Inv X pins σ H s) (h:yG X.K H a xs):∃ its:List Value,Vals xs its/\PlainL s.heap a its.toArray/\xs.length<=sizeLine:=by
  rcases h with h | ⟨o,its,n,hk,hc,hd,hs,hz,r⟩
  . obtain ⟨z,its,n,r,e⟩:=h.ok I.hok;exact ⟨its,r,⟨_,n,e,rfl,rfl,rfl⟩,z⟩
  . refine ⟨its.toList,r,⟨o,n,I.kIn a o hk,hc,hd,by simpa using hs⟩,?_⟩;have e:=r.length;simp only [uq] at e;omega
theorem Inv.tuple (I:Inv X pins σ H s) (h:uL X.K H a xs):∃ its:List Value,Vals xs its/\IsTup s.heap a its.toArray/\xs.length<=sizeLine:=by
  rcases h with h | ⟨o,its,n,hk,hc,hd,hs,hz,r⟩
  . obtain ⟨z,its,r,p⟩:=h.ok I.hok;exact ⟨its,r,p,z⟩
  . refine ⟨its.toList,r,⟨o,I.kIn a o hk,hc,n,by simpa using hs⟩,?_⟩;have e:=r.length;simp only [uq] at e;omega
theorem Inv.ajH (I:Inv X pins σ H s) (h:yG X.K H a xs) (h':yG X.K H a ys):xs=ys:=by
  obtain ⟨its,r,⟨o,n,e,_,_,d⟩,_⟩:=I.list h;obtain ⟨its',r',⟨o',n',e',_,_,d'⟩,_⟩:=I.list h';rw [e] at e';cases e';rw [d] at d';injection d' with d1 _;have:its=its':=by simpa using congrArg Array.toList d1
  subst this;exact r.inj r'
theorem Inv.a1L (I:Inv X pins σ H s) (h:uL X.K H a xs) (h':uL X.K H a ys):xs=ys:=by
  obtain ⟨its,r,⟨o,e,_,n,d⟩,_⟩:=I.tuple h;obtain ⟨its',r',⟨o',e',_,n',d'⟩,_⟩:=I.tuple h';rw [e] at e';cases e';rw [d] at d';injection d' with d1 _;have:its=its':=by simpa using congrArg Array.toList d1
  subst this;exact r.inj r'
end
noncomputable abbrev Cx.wish (X:Cx) (E:Value->Shared->Prop):Cx:={ X with xe:=E }
noncomputable abbrev Cx.nox (X:Cx):Cx:=X.wish fun _ _=>False
theorem Cx.Ok.wish (ok:X.Ok) (E:Value->Shared->Prop):(X.wish E).Ok :=
  ⟨ok.mod,ok.kind,ok.glob,ok.blt,ok.above,ok.inj,ok.has,ok.cab,ok.hd,ok.frames,ok.stk,ok.exf,ok.bs,ok.bsz,ok.a2V,ok.a3V,ok.mQ,ok.frf⟩
theorem Cx.Ok.qM (ok:(X.wish E).Ok):X.Ok :=
  ⟨ok.mod,ok.kind,ok.glob,ok.blt,ok.above,ok.inj,ok.has,ok.cab,ok.hd,ok.frames,ok.stk,ok.exf,ok.bs,ok.bsz,ok.a2V,ok.a3V,ok.mQ,ok.frf⟩
section
variable {X:Cx} {pins:List (Addr×Obj)} {σ:St} {H:Hp} {s:Shared} {E:Value->Shared->Prop}
theorem Inv.wish (I:Inv X pins σ H s) (E:Value->Shared->Prop):Inv (X.wish E) pins σ H s:=⟨I.ok.wish E,I.os,I.bare,I.base,I.loc,I.cell,I.free,I.fZ,I.pin,I.hok,I.len,I.hnd,I.tup⟩
theorem Inv.qM (I:Inv (X.wish E) pins σ H s):Inv X pins σ H s:=⟨I.ok.qM,I.os,I.bare,I.base,I.loc,I.cell,I.free,I.fZ,I.pin,I.hok,I.len,I.hnd,I.tup⟩
theorem SP.qM {D:Ends} {f:Flow} {s':Shared} (h:SP (X.wish E) pins D f s'):SP X pins D f s':=by
  cases f with
  | next=>obtain ⟨σ',H',I,q⟩:=h;exact ⟨σ',H',I.qM,q⟩
  | brk=>obtain ⟨σ',H',I,q⟩:=h;exact ⟨σ',H',I.qM,q⟩
  | cont=>obtain ⟨σ',H',I,q⟩:=h;exact ⟨σ',H',I.qM,q⟩
  | ret u=>obtain ⟨v,σ',H',I,r,q⟩:=h;exact ⟨v,σ',H',I.qM,r,q⟩
theorem PE.nox {t:TE} (h:PE X.nox e t):PE X e t:=fun pins s σ H Q I hw =>
  wpAny_mono (h pins s σ H Q (I.wish _) hw) (fun _ _ ⟨v,H',I',r,q⟩=>⟨v,H',I'.qM,r,q⟩) fun _ _ z=>False.elim z
theorem PT.nox {t:TT} (h:PT X.nox e t):PT X e t:=fun pins s σ H Q I hw =>
  wpAny_mono (h pins s σ H Q (I.wish _) hw) (fun _ _ ⟨H',I',q⟩=>⟨H',I'.qM,q⟩) fun _ _ z=>False.elim z
theorem PSs.nox {st:List Stmt} {t:TS} (h:PSs X.nox st t):PSs X st t:=fun pins s σ H D I hw =>
  wpAny_mono (h pins s σ H D (I.wish _) hw) (fun _ _ q=>q.qM) fun _ _ z=>False.elim z
end
section
variable {X:Cx} {st:Stmt} {rest:List Stmt} {t u:TS} {e:Expr} {te:TE} {pos:Pos}
noncomputable def asL:TS:=fun D σ H=>D.nx σ H
noncomputable def auW (t u:TS):TS:=fun D σ H=>t { D with nx:=u D } σ H
theorem aoA:PSs X [] asL:=fun _ _ σ H _ I h=>wpAny_execs_nil ⟨σ,H,I,h⟩
theorem ajI (h1:PS X st t) (h2:PSs X rest u):PSs X (st :: rest) (auW t u):=by
  intro pins s σ H D I h _tk;refine wpAny_execs_cons (cR (h1 pins s σ H { D with nx:=u D } I h) fun f s1 q=>?_);intro aKI;cases f with
  | next =>
    obtain ⟨σ',H',I',q⟩:=q;exact h2 pins s1 σ' H' D I' q
  | ret v=>exact q
  | brk=>exact q
  | cont=>exact q
theorem a90 (h1:PS X st t):PSs X [st] t:=by
  intro pins s σ H D I h _tk;refine wpAny_execs_cons (cR (h1 pins s σ H D I h) fun f s1 q=>?_);intro aKJ;cases f with
  | next=>exact wpAny_execs_nil q
  | ret v=>exact q
  | brk=>exact q
  | cont=>exact q
theorem aoB:PS X (.Pass pos) asL:=fun _ _ σ H _ I h=>wpAny_Pass ⟨σ,H,I,h⟩
theorem Inv.quiet {σ:St} (I:Inv X pins σ H s):interactive X.env=false:=by simp [interactive,I.ok.kind]
noncomputable def aAP (te:TE):TS:=fun D σ H=>te σ H fun _ H1=>D.nx σ H1
theorem aoC (he:PE X e te) (hs:swapsWith e none pos.line X.env=pure false:=by rfl):PS X (.Expr e pos) (aAP te):=by
  intro pins s σ H D I h _tk;exact wpAny_Expr_any (cR (he pins s σ H _ I h) fun v s1 ⟨x,H1,I1,r1,q1⟩=>⟨σ,H1,I1,q1⟩) I.quiet hs
noncomputable def aG2 (te:TE):TS:=fun D σ H=>te σ H D.rt
theorem ajJ (he:PE X e te):PS X (.Return (some e) pos) (aG2 te):=by
  intro pins s σ H D I h _tk;exact wpAny_Return_some (cR (he pins s σ H _ I h) fun v s1 ⟨x,H1,I1,r1,q1⟩=>⟨x,σ,H1,I1,r1,q1⟩)
noncomputable def aG3 (c:TT) (t u:TS):TS:=fun D σ H=>c σ H fun b H1=>if b=true then t D σ H1 else u D σ H1
theorem aAQ {a b:List Stmt} (hc:PT X c tc) (ha:PSs X a t) (hb:PSs X b u):PS X (.If c a b pos) (aG3 tc t u):=by
  intro pins s σ H D I h _tk;refine wpAny_If (cR (hc pins s σ H _ I h) fun d s1 ⟨H1,I1,q1⟩=>?_);cases d with
  | true=>exact ha pins s1 σ H1 D I1 q1
  | false=>exact hb pins s1 σ H1 D I1 q1
end
noncomputable abbrev TG:=V->St->Hp->(St->Hp->Prop)->Prop
noncomputable abbrev TGs:=List V->St->Hp->(St->Hp->Prop)->Prop
noncomputable def PG (X:Cx) (target:Expr) (t:TG):Prop :=
  ∀ (pins:List (Addr×Obj)) (s:Shared) (σ:St) (H:Hp) (v:V) (u:Value) (Q:St->Hp->Prop),Inv X pins σ H s->RelV v u->t v σ H Q ->
    [Tk X.need s]->wpAny (model X.prog X.w) X.A (assign target X.env u) (fun _ s'=>∃ σ' H',Inv X pins σ' H' s'/\Q σ' H') X.xe s
noncomputable def PGs (X:Cx) (ts:List Expr) (t:TGs):Prop :=
  ∀ (pins:List (Addr×Obj)) (s:Shared) (σ:St) (H:Hp) (vs:List V) (us:List Value) (Q:St->Hp->Prop),Inv X pins σ H s->Vals vs us->t vs σ H Q ->
    [Tk X.need s]->wpAny (model X.prog X.w) X.A (assignInOrder ((assignEach ts X.env).map (·.2)) us) (fun _ s'=>∃ σ' H',Inv X pins σ' H' s'/\Q σ' H') X.xe s
noncomputable abbrev TIp:=V->V->Hp->VK->Prop
noncomputable def PIp (X:Cx) (op:Operator) (t:TIp):Prop :=
  ∀ (pins:List (Addr×Obj)) (s:Shared) (σ:St) (H:Hp) (x y:V) (v u:Value) (Q:VK),Inv X pins σ H s->RelV x v->RelV y u->t x y H Q ->
    wpAny (model X.prog X.w) X.A (inplaceOp op v u) (EP X pins σ Q) X.xe s
section
variable {X:Cx} {pos:Pos}
noncomputable def afE (i:Nat):TG:=fun v σ H Q=>Q (σ.set i (some v)) H
theorem a91 (hN:X.N.Nodup) (hi:X.N[i]?=some x) (hx:Loc X.env.scope x) (hf:X.fn x=true∨X.env.scope.names.lookup x=some .local:=by first | exact .inl rfl | exact .inr rfl | assumption):PG X (.Name x pos) (afE i):=by
  intro pins s σ H v u Q I r h;exact wpAny_assign_Name (vD I hN hi hx r (fun s' I'=>⟨_,H,I',h⟩) hf)
noncomputable def aAS:TGs:=fun vs σ H Q=>vs=[]/\Q σ H
noncomputable def asN (t:TG) (u:TGs):TGs:=fun vs σ H Q=>∃ v r,vs=v :: r/\t v σ H fun σ' H'=>u r σ' H' Q
theorem aoD:PGs X [] aAS:=by
  intro pins s σ H vs us Q I r h;obtain ⟨e,h⟩:=h;subst e;cases r;exact assignInOrder_nil ⟨σ,H,I,h⟩
theorem ajK {t:TG} {u:TGs} (h1:PG X e t) (h2:PGs X es u)
    (hs:(assignEach (e :: es) X.env).map (·.2)=assign e X.env :: (assignEach es X.env).map (·.2):=by rfl):PGs X (e :: es) (asN t u):=by
  intro pins s σ H vs us Q I r h;obtain ⟨v,vr,e1,h⟩:=h;subst e1;cases r with
  | cons r rr =>
    rw [hs];refine assignInOrder_cons (cR (h1 pins s σ H _ _ _ I r h) fun _ s1 ⟨σ1,H1,I1,q1⟩=>?_);exact h2 pins s1 σ1 H1 _ _ Q I1 rr q1
noncomputable def aG5 (K:bx) (n:Nat) (t:TGs):TG:=fun v σ H Q=>∃ a xs,v = .ref a/\uL K H a xs/\xs.length=n/\t xs σ H Q
theorem ajL {k:Nat} {t:TGs} (hc:X.calm=true) (h:PGs X es t)
    (hn:(assignEach es X.env).length=n:=by rfl) (hst:(assignEach es X.env).findIdx? (·.1)=none:=by rfl):PG X (.Tuple es k pos) (aG5 X.K n t):=by
  intro pins s σ H v u Q I r hw;obtain ⟨a,xs,e1,hq,hl,hw⟩:=hw;subst e1;cases r;obtain ⟨its,rv,ht,hz⟩:=I.tuple hq;refine assign_Tuple_tuple (I.ok.hd hc) ht (by simp [hn,← hl,rv.length]) hst fun h' hx=>?_;have I1:Inv X pins σ H { s with heap:=h' }:=I.kept (t':=s.toks) fun b o e=>hx b o (dw (cu e)) e;exact h pins _ σ H xs _ Q I1 (by simpa using rv) hw
noncomputable def aAT (te:TE) (g:TG):TS:=fun D σ H=>te σ H fun x H1=>g x σ H1 D.nx
theorem auX {g:TG} (he:PE X e te) (hg:PG X tg g) (hs:swapsWithSole [tg] e pos.line X.env=pure false:=by rfl) (hw:swappedStores [tg] e X.env=pure none:=by rfl)
    (h1:(assignEach [tg] X.env).map (·.2)=[assign tg X.env]:=by rfl):PS X (.Assign [tg] e pos) (aAT te g):=by
  intro pins s σ H D I h _tk;refine wpAny_Assign_stores (cR (he pins s σ H _ I h) fun v s1 ⟨x,H1,I1,r1,q1⟩=>?_) hs hw;rw [h1];exact cR (hg pins s1 σ H1 x v _ I1 r1 q1) fun _ s2 q=>q
theorem auY (hN:X.N.Nodup) (hi:X.N[i]?=some x) (hx:Loc X.env.scope x) (he:PE X e te) (hs:swapsWith e (some (.Name x pos')) pos.line X.env=pure false:=by rfl) (hf:X.fn x=true∨X.env.scope.names.lookup x=some .local:=by first | exact .inl rfl | exact .inr rfl | assumption) :
    PS X (.Assign [.Name x pos'] e pos) (aAT te (afE i)):=by
  intro pins s σ H D I h _tk;refine wpAny_Assign_Name (cR (he pins s σ H _ I h) fun v s1 ⟨y,H1,I1,r1,q1⟩=>?_) hs;exact vD I1 hN hi hx r1 (fun s2 I2=>⟨_,H1,I2,q1⟩) hf
noncomputable def aG6 (i:Nat) (te:TE) (ti:TIp):TS:=fun D σ H=>∃ x,σ[i]?=some (some x)/\te σ H fun y H1=>ti x y H1 fun z H2=>D.nx (σ.set i (some z)) H2
theorem auZ {op:Operator} {ti:TIp} (hN:X.N.Nodup) (hi:X.N[i]?=some x) (hx:Loc X.env.scope x) (he:PE X e te) (ho:PIp X op ti) (hf:X.fn x=true∨X.env.scope.names.lookup x=some .local:=by first | exact .inl rfl | exact .inr rfl | assumption) :
    PS X (.AugAssign (.Name x pos') op e pos) (aG6 i te ti):=by
  intro pins s σ H D I h _tk;obtain ⟨v,e1,h⟩:=h;obtain ⟨m,hn,hl⟩:=I.loc;have vis:Vis X.env.scope x:=by rcases hx with k | k;exact .inl k;exact .inr (.inl k)
  obtain ⟨u,r,l⟩:=hl i x v hi e1 vis;refine wpAny_AugAssign_Name ?_
  have go:wpAny (model X.prog X.w) X.A (eval e X.env) (fun w s₂=>wpAny (model X.prog X.w) X.A (inplaceOp op u w) (fun r s₃=>wpAny (model X.prog X.w) X.A (storeName X.env x r) (fun _=>SP X pins D .next) X.xe s₃) X.xe s₂) X.xe s:=by
    refine cR (he pins s σ H _ I h) fun w s1 ⟨y,H1,I1,r1,q1⟩=>?_;refine cR (ho pins s1 σ H1 v y u w _ I1 r r1 q1) fun z s2 ⟨zv,H2,I2,r2,q2⟩=>?_;exact vD I2 hN hi hx r2 (fun s3 I3=>⟨_,H2,I3,q2⟩) hf
  rcases l with ⟨hk,hm⟩ | ⟨hk,c,hc,hcell⟩
  . exact wpAny_loadName_local I.ok.kind hk hn hm go
  . rcases hk with hk | hk
    . exact wpAny_loadName_cell I.ok.kind hk hc hcell go
    . rcases hx with k | k
      . have:X.env.scope.names.lookup x=some .free:=hk;rw [k] at this;cases this
      . have:X.env.scope.names.lookup x=some .free:=hk;rw [k] at this;cases this
end
section
variable {X:Cx} {pos:Pos}
noncomputable def av0 (c:TT) (tb:TS):TS:=fun D σ H=>∃ W:Nat->St->Hp->Prop,(∃ m,W m σ H)/\∀ m σ H,W m σ H ->
  c σ H fun b H1=>if b=true then ∃ N:St->Hp->Prop,(∀ σ' H',N σ' H'->∃ m',m' < m/\W m' σ' H')/\tb { D with nx:=N,ct:=N,bk:=D.nx } σ H1 else D.nx σ H1
theorem ajM (hp:PassesOwn (model X.prog X.w) X.A X.env X.xe) (hc:PT X c tc) (hb:PSs X body tb):PS X (.While c body [] pos) (av0 tc tb):=by
  intro pins s σ H D I h _tk;obtain ⟨W,⟨m0,w0⟩,turn⟩:=h;refine wpAny_While (codeAny_whileLoop (fun n s'=>Tk X.need s'/\∃ σ' H',Inv X pins σ' H' s'/\W n σ' H') ?_ m0 ⟨inferInstance,σ,H,I,w0⟩);rintro n s1 ⟨tk1,σ1,H1,I1,w1⟩;refine wpAny_passesOwn hp (cR (hc pins s1 σ1 H1 _ I1 (turn n σ1 H1 w1)) fun b s2 ⟨H2,I2,q2⟩=>?_);cases b with
  | true =>
    obtain ⟨N,hN,q2⟩:=q2;rw [if_pos rfl];refine wpAny_passesOwn hp (cR (hb pins s2 σ1 H2 _ I2 q2) fun f s3 q3=>?_);intro aKL;cases f with
    | next =>
      obtain ⟨σ3,H3,I3,n3⟩:=q3;obtain ⟨m',hm,w3⟩:=hN σ3 H3 n3;exact ⟨m',hm,inferInstance,σ3,H3,I3,w3⟩
    | cont =>
      obtain ⟨σ3,H3,I3,n3⟩:=q3;obtain ⟨m',hm,w3⟩:=hN σ3 H3 n3;exact ⟨m',hm,inferInstance,σ3,H3,I3,w3⟩
    | brk=>exact q3
    | ret v=>exact q3
  | false =>
    rw [if_neg jw];exact wpAny_execs_nil ⟨σ1,H2,I2,q2⟩
end
structure It where
  go:Nat->Hp->Prop
  yld:Nat->Hp->V->Hp->Prop
  stop:Nat->Hp->Prop
noncomputable def nU (X:Cx) (pins:List (Addr×Obj)) (H:Hp) (b:Addr):Prop :=
  H b=none/\b≠X.env.locals/\b ∉ X.fs/\(b∈X.ex∨X.s₀.heap.objs.size<=b)/\(∀ x c,X.env.cells.lookup x=some c->c≠b)/\∀ p∈X.pn++pins,p.1≠b
theorem Inv.a3Y {σ:St} (I:Inv X pins σ H s) (hb:s.heap.objs.size<=b) (hn:H' b=none):nU X pins H' b:=by
  refine ⟨hn,zm (dg I.lt hb),I.aFW hb,.inr (jd I.sz hb),fun x c e z=>?_,fun p hp z=>?_⟩
  . obtain ⟨v,q⟩:=I.cell x c e;exact absurd (dg q.lt (by rw [z];exact hb)) (mj _)
  . exact absurd (dg (cu (I.pin p hp).1) (by rw [z];exact hb)) (mj _)
structure Turn (cm:Bool) (tl:List (Addr×List V)) (P:Program) (w:World) (K:bx) (tg:Expr) (J:It) (fp:List Addr) (it:Addr) (tn:Nat->Heap->Prop):Prop where
  mem:it∈fp
  obj:∀ i h,tn i h->∀ b∈fp,∃ o,h.get? b=some o/\∀ v,o.data ≠ .cell v
  keep:∀ i h h',tn i h->(∀ b∈fp,∀ o,h.get? b=some o->h'.get? b=some o)->tn i h'
  item:∀ (X:Cx),X.prog=P->X.w=w->X.K=K->(cm=true->X.calm=true)->(∀ p∈tl,p∈X.tp)->∀ (i:Nat) (pins:List (Addr×Obj)) (s:Shared) (σ:St) (H:Hp) (E:Value->Shared->Prop),Inv X pins σ H s->(∀ b∈fp,nU X pins H b)->tn i s.heap->J.go i H ->
    wpAny (model P w) X.A (pyNext (.ref it)) (fun r s1=>∃ u,r=some u /\
      wpAny (model P w) X.A (letOwnedTupleGo tg (.ref it) u) (fun _ s2=>∃ x H',Inv X pins σ H' s2/\RelV x u/\J.yld i H x H'/\tn (i+1) s2.heap/\∀ b∈fp,H' b=none) E s1) E s
  done:∀ (X:Cx),X.prog=P->X.w=w->X.K=K->(cm=true->X.calm=true)->(∀ p∈tl,p∈X.tp)->∀ (i:Nat) (pins:List (Addr×Obj)) (s:Shared) (σ:St) (H:Hp) (E:Value->Shared->Prop),Inv X pins σ H s->(∀ b∈fp,nU X pins H b)->tn i s.heap->J.stop i H ->
    wpAny (model P w) X.A (pyNext (.ref it)) (fun r s1=>r=none/\Inv X pins σ H s1) E s
  self:∀ (A:Around) (i:Nat) (s:Shared) (Q:Value->Shared->Prop) (E:Value->Shared->Prop),tn i s.heap->Q (.ref it) s->wpAny (model P w) A (pyIter (.ref it)) Q E s
noncomputable abbrev TI:=St->Hp->(It->Hp->Prop)->Prop
noncomputable def PIE (X:Cx) (pins:List (Addr×Obj)) (σ:St) (tg:Expr) (R:It->Hp->Prop) (itv:Value) (s2:Shared):Prop :=
  ∃ (it:Addr) (fp:List Addr) (tn:Nat->Heap->Prop) (J:It) (H':Hp),itv = .ref it/\Inv X pins σ H' s2/\Turn X.calm X.tp X.prog X.w X.K tg J fp it tn/\tn 0 s2.heap/\(∀ b∈fp,nU X pins H' b)/\R J H'
noncomputable def PI (X:Cx) (tg iter:Expr) (wi:TI):Prop :=
  ∀ (pins:List (Addr×Obj)) (s:Shared) (σ:St) (H:Hp) (R:It->Hp->Prop),Inv X pins σ H s->wi σ H R ->
    [Tk X.need s]->wpAny (model X.prog X.w) X.A (eval iter X.env) (fun v s1=>wpAny (model X.prog X.w) X.A (pyIter v) (PIE X pins σ tg R) X.xe s1) X.xe s
theorem aaZ {n:String} {Q:Unit->Shared->Prop} (ho:s.heap.get? it=some o) (hc:o.cls = .type n) (hd:o.data = .fields vs)
    (hn:["enumerate", "zip", "dict_itemiterator", "dict_reverseitemiterator", "odict_iterator", "itertools.zip_longest", "itertools.pairwise"].contains n=false) (hQ:Q () s):wpAny M A (letOwnedTupleGo tg (.ref it) u) Q E s:=by
  unfold letOwnedTupleGo
  cases tg <;> first
    | exact aq hQ
    | (cases u <;> first
        | exact aq hQ
        | (refine aj (wpAny_load ho ?_)
           rw [hc,hd];show wpAny M A (if (["enumerate", "zip", "dict_itemiterator", "dict_reverseitemiterator", "odict_iterator", "itertools.zip_longest", "itertools.pairwise"].contains n&&vs[0]? == some (rawInt _))=true then _ else _) Q E s;rw [if_neg (by intro h;rw [hn,Bool.false_and] at h;cases h)];exact aq hQ))
noncomputable def Itl (K:bx) (a:Addr):It :=
  ⟨fun i H=>∃ xs x,yG K H a xs/\xs[i]?=some x,fun i H x H'=>H'=H/\∀ xs,yG K H a xs->xs[i]?=some x,fun i H=>∃ xs,yG K H a xs/\xs.length<=i⟩
noncomputable def Itt (K:bx) (a:Addr):It :=
  ⟨fun i H=>∃ xs x,uL K H a xs/\xs[i]?=some x,fun i H x H'=>H'=H/\∀ xs,uL K H a xs->xs[i]?=some x,fun i H=>∃ xs,uL K H a xs/\xs.length<=i⟩
noncomputable def Itr (lo:Int) (n:Nat):It:=⟨fun i _=>i < n,fun i H x H'=>H'=H/\x = .int (lo+i),fun i _=>n<=i⟩
theorem a7T {w:World} {K:bx} (a it:Addr):Turn cm tl P w K tg (Itl K a) [it] it (fun i h=>h.IsListIter it a i) where
  mem:=by simp
  obj:=fun i h st b hb=>by
    have e:b=it:=by simpa using hb
    subst e;obtain ⟨o,e,c,d⟩:=st;exact ⟨o,e,fun v z=>by rw [d] at z;cases z⟩
  keep:=fun i h h' st k=>st.at fun o e=>k it (by simp) o e
  item:=by
    intro X hP hw hK hc ht i pins s σ H E I hf st hg;subst hP hw hK;obtain ⟨xs,x,hq,hx⟩:=hg;obtain ⟨its,rv,p,hz⟩:=I.list hq;obtain ⟨u,hu,ru⟩:=rv.get hx;obtain ⟨f0,f1,f2,f3,f4,f5⟩:=hf it (by simp);refine wpAny_pyNext_list_item st p.isList (x:=u) (by simpa using hu) fun h' st' sb=>?_;have I1:Inv X pins σ H { s with heap:=h' }:=I.turned (t':=s.toks) (fun b o hb e=>(sb.2 b hb).trans e) f0 f1 f3 f4 f5;obtain ⟨o,e,c,d⟩:=id st';exact ⟨u,rfl,aaZ (s:={ s with heap:=h' }) e c d (by decide) ⟨x,H,I1,ru,⟨rfl,fun ys hy=>by rw [I.ajH hy hq];exact hx⟩,st',fun b hb=>(hf b hb).1⟩⟩
  done:=by
    intro X hP hw hK hc ht i pins s σ H E I hf st hg;subst hP hw hK;obtain ⟨xs,hq,hx⟩:=hg;obtain ⟨its,rv,p,hz⟩:=I.list hq;obtain ⟨f0,f1,f2,f3,f4,f5⟩:=hf it (by simp);have hl:=rv.length;exact ahN (I.hnd.heap I.hok) st p.isList (by simp;omega) fun h' eb=>⟨rfl,I.turned (t':=s.toks) (fun b o hb e=>eb b o hb e) f0 f1 f3 f4 f5⟩
  self:=fun _ _ _ _ _ st h=>wpAny_pyIter_listiter st h
theorem a3Z {w:World} {K:bx} (a it:Addr):Turn cm tl P w K tg (Itt K a) [it] it (fun i h=>h.IsTupleIter it a i) where
  mem:=by simp
  obj:=fun i h st b hb=>by
    have e:b=it:=by simpa using hb
    subst e;obtain ⟨o,e,c,d⟩:=st;exact ⟨o,e,fun v z=>by rw [d] at z;cases z⟩
  keep:=fun i h h' st k=>st.at fun o e=>k it (by simp) o e
  item:=by
    intro X hP hw hK hc ht i pins s σ H E I hf st hg;subst hP hw hK;obtain ⟨xs,x,hq,hx⟩:=hg;obtain ⟨its,rv,p,hz⟩:=I.tuple hq;obtain ⟨u,hu,ru⟩:=rv.get hx;obtain ⟨f0,f1,f2,f3,f4,f5⟩:=hf it (by simp);refine wpAny_pyNext_tuple_item st (show s.heap.IsTuple a its.toArray from p) (x:=u) (by simpa using hu) fun h' st' sb=>?_;have I1:Inv X pins σ H { s with heap:=h' }:=I.turned (t':=s.toks) (fun b o hb e=>(sb.2 b hb).trans e) f0 f1 f3 f4 f5;obtain ⟨o,e,c,d⟩:=id st';exact ⟨u,rfl,aaZ (s:={ s with heap:=h' }) e c d (by decide) ⟨x,H,I1,ru,⟨rfl,fun ys hy=>by rw [I.a1L hy hq];exact hx⟩,st',fun b hb=>(hf b hb).1⟩⟩
  done:=by
    intro X hP hw hK hc ht i pins s σ H E I hf st hg;subst hP hw hK;obtain ⟨xs,hq,hx⟩:=hg;obtain ⟨its,rv,p,hz⟩:=I.tuple hq;obtain ⟨f0,f1,f2,f3,f4,f5⟩:=hf it (by simp);have hl:=rv.length;exact ajC (I.hnd.heap I.hok) st (show s.heap.IsTuple a its.toArray from p) (by simp;omega) fun h' eb=>⟨rfl,I.turned (t':=s.toks) (fun b o hb e=>eb b o hb e) f0 f1 f3 f4 f5⟩
  self:=fun _ _ _ _ _ st h=>wpAny_pyIter_tupleiter st h
theorem adF {w:World} {K:bx} (it:Addr) (lo:Int) (n:Nat):Turn cm tl P w K tg (Itr lo n) [it] it (fun i h=>IsRangeIter h it (lo+(i:Nat) * 1) ((n:Int) - (i:Nat)) 1) where
  mem:=by simp
  obj:=fun i h st b hb=>by
    have e:b=it:=by simpa using hb
    subst e
    exact ⟨_,st,fun v z=>by
      have z':Data.fields _=Data.cell v:=z;cases z'⟩
  keep:=fun i h h' st k=>k it (by simp) _ st
  item:=by
    intro X hP hw hK hc ht i pins s σ H E I hf st hg;subst hP hw hK;obtain ⟨f0,f1,f2,f3,f4,f5⟩:=hf it (by simp);have hi:i < n:=hg;refine wpAny_pyNext_range_item st (by omega) fun h' st' kk=>?_;have I1:Inv X pins σ H { s with heap:=h',toks:=s.toks+1 }:=I.turned (fun b o hb e=>(kk.2 b hb).trans e) f0 f1 f3 f4 f5
    have st2:IsRangeIter h' it (lo+((i+1:Nat):Int) * 1) ((n:Int) - ((i+1:Nat):Int)) 1:=by
      have e1:lo+((i:Nat):Int) * 1+1=lo+((i+1:Nat):Int) * 1:=by omega
      have e2:(n:Int) - ((i:Nat):Int) - 1=(n:Int) - ((i+1:Nat):Int):=by omega
      rw [← e1,← e2];exact st'
    refine ⟨_,rfl,aaZ (s:={ s with heap:=h',toks:=s.toks+1 }) (n := "range_iterator") st2 rfl rfl (by decide) ⟨.int (lo+i),H,I1,⟨s.toks,?_⟩,⟨rfl,rfl⟩,st2,fun b hb=>(hf b hb).1⟩⟩;rw [Int.mul_one]
  done:=by
    intro X hP hw hK hc ht i pins s σ H E I hf st hg;subst hP hw hK;obtain ⟨f0,f1,f2,f3,f4,f5⟩:=hf it (by simp);exact ajD (I.hnd.heap I.hok) st (by have:n<=i:=hg;omega) fun h' eb=>⟨rfl,I.turned (t':=s.toks) (fun b o hb e=>eb b o hb e) f0 f1 f3 f4 f5⟩
  self:=fun _ _ _ _ _ st h=>wpAny_pyIter_rangeiter st h
end
variable {fp:List Addr}
section
section
variable {X:Cx} {tg:Expr}
theorem ajN {σ:St} {R:It->Hp->Prop} {lo hi:Int} {t u v:Tok} {tk:Nat} (I:Inv X pins σ H s) (h1:-(2 ^ 62)<=lo) (h2:lo < 2 ^ 62) (h3:-(2 ^ 62)<=hi) (h4:hi < 2 ^ 62)
    (q:R (Itr lo (hi - lo).toNat) H):wpAny (model X.prog X.w) X.A (pyIter (.ref s.heap.objs.size)) (PIE X pins σ tg R) E { s with heap:=s.heap.push { cls := .type "range",data := .fields #[.int lo t,.int hi u,.int 1 v] },toks:=tk }:=by
  refine wpAny_pyIter_range (IsRange.new ..) (small_one h1 h2 h3 h4) ?_;have I1:Inv X pins σ H { s with heap:=s.heap.push { cls := .type "range",data := .fields #[.int lo t,.int hi u,.int 1 v] },toks:=tk }:=I.kept fun b o e=>ao _ e
  refine ⟨(s.heap.push { cls := .type "range",data := .fields #[.int lo t,.int hi u,.int 1 v] }).objs.size,[(s.heap.push { cls := .type "range",data := .fields #[.int lo t,.int hi u,.int 1 v] }).objs.size],_,_,H,rfl,
    I1.kept (t':=tk) fun b o e=>ao _ e,adF _ lo (hi - lo).toNat,?_,fun b hb=>?_,q⟩
  . have e1:lo+((0:Nat):Int) * 1=lo:=by simp
    have e2:(((hi - lo).toNat:Nat):Int) - ((0:Nat):Int)=Builtin.Range.rangeSize lo hi 1:=by rw [rangeSize_one];split <;> omega
    show IsRangeIter _ _ (lo+((0:Nat):Int) * 1) ((((hi - lo).toNat:Nat):Int) - ((0:Nat):Int)) 1;rw [e1,e2];exact dj _ rfl
  . have e:b=(s.heap.push { cls := .type "range",data := .fields #[.int lo t,.int hi u,.int 1 v] }).objs.size:=by simpa using hb
    subst e;exact I1.a3Y (bw _) (I1.hok.fresh (bw _))
noncomputable def aAV (ta:TA):TI:=fun σ H R=>ta σ H fun vs H1=>∃ j:Int,vs=[.int j]/\-(2 ^ 62)<=j/\j < 2 ^ 62/\R (Itr 0 j.toNat) H1
theorem a7U {a:Expr} {ta:TA} {p:Pos} (hg:Gl X "range") (hm:X.mg "range" = none) (ha:PA X [a] ta) (hs:starEach [a] X.env=[(false,eval a X.env)]:=by rfl):PI X tg (.Call (.Name "range" p) [a] [] pos) (aAV ta):=by
  intro pins s σ H R I h _tk;refine Call_ (a3X I hg hm boot_range (PyProof.Rows.callWith_type1 (cR (ha pos pins s σ H _ I h) fun us s1 ⟨vs,H1,I1,r1,q1⟩=>?_) hs rfl));obtain ⟨j,e,q1,q2,q⟩:=q1;subst e;cases r1 with
  | cons r rr =>
    cases rr;obtain ⟨t,rfl⟩:=r;exact call_range_1 (ajN I1 (by omega) (by omega) q1 q2 (by simpa using q))
noncomputable def aG9 (wi:TI) (g:TG) (tb:TS):TS:=fun D σ H=>wi σ H fun J H1=>∃ W:Nat->Nat->St->Hp->Prop,(∃ m,W 0 m σ H1)/\∀ i m σ H,W i m σ H ->
  (J.stop i H/\D.nx σ H)∨(J.go i H/\∃ N:St->Hp->Prop,(∀ σ' H',N σ' H'->∃ m',m' < m/\W (i+1) m' σ' H')/\∀ x H',J.yld i H x H'->g x σ H' fun σ2 H2=>tb { D with nx:=N,ct:=N,bk:=D.nx } σ2 H2)
noncomputable def a1M (fp:List Addr) (h:Heap):List (Addr×Obj):=fp.filterMap fun b=>(h.get? b).map fun o=>(b,o)
theorem sG (hb:b∈fp) (e:h.get? b=some o):(b,o)∈a1M fp h:=wk.mpr ⟨b,hb,by rw [e];rfl⟩
theorem ahT {p:Addr×Obj} (hp:p∈a1M fp h):p.1∈fp/\h.get? p.1=some p.2:=by
  obtain ⟨b,hb,e⟩:=wk.mp hp;cases q:h.get? b with
  | none=>rw [q] at e;cases e
  | some o =>
    rw [q] at e;have e':(b,o)=p:=gw.inj e;subst e';exact ⟨hb,q⟩
theorem Inv.pinned {σ:St} (I:Inv X pins σ H s) (hf:∀ b∈fp,nU X pins H b) (ho:∀ b∈fp,∃ o,s.heap.get? b=some o/\∀ v,o.data ≠ .cell v):Inv X (pins++a1M fp s.heap) σ H s :=
  I.afD fun p hp=>(qx.mp hp).elim (fun z=>I.pin p (jg _ z)) fun z=>by
    obtain ⟨hb,e⟩:=ahT z;obtain ⟨f0,f1,f2,_⟩:=hf p.1 hb;obtain ⟨o,e',d⟩:=ho p.1 hb;rw [e] at e';cases e';exact ⟨e,f0,f1,f2,d⟩
theorem Inv.zY {pl:List (Addr×Obj)} {σ:St} (I:Inv X (pins++pl) σ H s):Inv X pins σ H s:=I.afD fun p hp=>I.pin p (jg _ (vg _ hp))
theorem av1 {iter:Expr} {wi:TI} {g:TG} (hp:PassesOwn (model X.prog X.w) X.A X.env X.xe) (hi:PI X tg iter wi) (hg:PG X tg g) (hb:PSs X body tb)
    (hs:∀ x,foldedSetIterable iter X.env x=pure x:=by intro _;rfl):PS X (.For tg iter body [] pos) (aG9 wi g tb):=by
  intro pins s σ H D I h _tk;refine wpAny_For (cR (hi pins s σ H _ I h) fun v s1 h1=>cR h1 fun itv s2 h2=>?_) hs;intro aKM;obtain ⟨it,fp,tn,J,H2,e,I2,T,st2,f2,W,⟨m0,w0⟩,turn⟩:=h2;subst e;have stat:∀ {H':Hp},(∀ b∈fp,H' b=none)->∀ b∈fp,nU X pins H' b:=fun hn b hb=>⟨hn b hb,(f2 b hb).2⟩;refine codeAny_forLoop_any (fun n s'=>Tk X.need s'/\∃ i σ' H',Inv X pins σ' H' s'/\tn i s'.heap/\(∀ b∈fp,H' b=none)/\W i n σ' H') ?_ m0 ⟨inferInstance,0,σ,H2,I2,st2,fun b hb=>(f2 b hb).1,w0⟩;rintro n s3 ⟨tk3,i,σ3,H3,I3,st3,fr3,w3⟩;rcases turn i n σ3 H3 w3 with ⟨stop,qn⟩ | ⟨go,N,hN,step⟩
  . refine wpAny_passesOwn hp (cR (T.done X rfl rfl rfl (fun h=>h) (fun _ h=>h) i pins s3 σ3 H3 X.xe I3 (stat fr3) st3 stop) fun r s4 ⟨hr,I4⟩=>?_);subst hr;exact wpAny_execs_nil ⟨σ3,H3,I4,qn⟩
  . refine wpAny_passesOwn hp (cR (T.item X rfl rfl rfl (fun h=>h) (fun _ h=>h) i pins s3 σ3 H3 X.xe I3 (stat fr3) st3 go) fun r s4 ⟨u,hr,h4⟩=>?_);subst hr;refine wpAny_passesOwn hp (cR h4 fun _ s5 ⟨x,H5,I5,r5,y5,st5,fr5⟩=>?_);have I5':=I5.pinned (stat fr5) (T.obj _ _ st5);refine wpAny_passesOwn hp (cR (hg _ s5 σ3 H5 x u _ I5' r5 (step x H5 y5)) fun _ s6 ⟨σ6,H6,I6,q6⟩=>?_);refine wpAny_passesOwn hp (cR (hb _ s6 σ6 H6 _ I6 q6) fun f s7 q7=>?_);intro aKP
    have again:∀ {σ7:St} {H7:Hp},Inv X (pins++a1M fp s5.heap) σ7 H7 s7->N σ7 H7->∃ m,m < n/\Tk X.need s7/\∃ i σ' H',Inv X pins σ' H' s7/\tn i s7.heap/\(∀ b∈fp,H' b=none)/\W i m σ' H':=fun {σ7 H7} I7 n7=>by
      obtain ⟨m',hm,w7⟩:=hN σ7 H7 n7;refine ⟨m',hm,inferInstance,i+1,σ7,H7,I7.zY,T.keep _ _ _ st5 fun b hb o e=>(I7.pin (b,o) (jg _ (jg _ (sG hb e)))).1,fun b hb=>?_,w7⟩;obtain ⟨o,e,d⟩:=T.obj _ _ st5 b hb;exact (I7.pin (b,o) (jg _ (jg _ (sG hb e)))).2.1
    cases f with
    | next=>obtain ⟨σ7,H7,I7,n7⟩:=q7;exact again I7 n7
    | cont=>obtain ⟨σ7,H7,I7,n7⟩:=q7;exact again I7 n7
    | brk=>obtain ⟨σ7,H7,I7,q7⟩:=q7;exact ⟨σ7,H7,I7.zY,q7⟩
    | ret v=>obtain ⟨x7,σ7,H7,I7,r7,q7⟩:=q7;exact ⟨x7,σ7,H7,I7.zY,r7,q7⟩
end
end
variable {g:Int->Int->Int}{f:Value->Value->Sem Value}{op':CmpOp}{y:V}
section
noncomputable abbrev R2:=V->V->Hp->VK->Prop
noncomputable def pN (X:Cx) (f:Value->Value->Sem Value) (r:R2):Prop :=
  ∀ (pins:List (Addr×Obj)) (s:Shared) (σ:St) (H:Hp) (x y:V) (v u:Value) (Q:VK),Inv X pins σ H s->RelV x v->RelV y u->r x y H Q ->
    wpAny (model X.prog X.w) X.A (f v u) (EP X pins σ Q) X.xe s
noncomputable def UnR (X:Cx) (f:Value->Sem Value) (r:V->Hp->VK->Prop):Prop :=
  ∀ (pins:List (Addr×Obj)) (s:Shared) (σ:St) (H:Hp) (x:V) (v:Value) (Q:VK),Inv X pins σ H s->RelV x v->r x H Q ->
    wpAny (model X.prog X.w) X.A (f v) (EP X pins σ Q) X.xe s
noncomputable def rA (X:Cx) (f:Value) (r:List V->Hp->VK->Prop):Prop :=
  ∀ (pins:List (Addr×Obj)) (s:Shared) (σ:St) (H:Hp) (xs:List V) (us:List Value) (Q:VK),Inv X pins σ H s->Vals xs us->r xs H Q ->
    wpAny (model X.prog X.w) X.A (call f us) (EP X pins σ Q) X.xe s
noncomputable def tOp (r:R2) (ta tb:TE):TE:=fun σ H Q=>ta σ H fun x H1=>tb σ H1 fun y H2=>r x y H2 Q
noncomputable def tUn (r:V->Hp->VK->Prop) (ta:TE):TE:=fun σ H Q=>ta σ H fun x H1=>r x H1 Q
noncomputable def rI (C:Int->Int->Prop) (g:Int->Int->V):R2:=fun x y H Q=>∃ i j,x = .int i/\y = .int j/\C i j/\Q (g i j) H
noncomputable def rI0 (g:Int->Int->V):R2:=fun x y H Q=>∃ i j,x = .int i/\y = .int j/\Q (g i j) H
noncomputable def rU (g:Int->V):V->Hp->VK->Prop:=fun x H Q=>∃ i,x = .int i/\Q (g i) H
variable {r:R2}
section
variable {X:Cx} {a b c:Expr} {ta tb tc:TE} {pos:Pos}
theorem av2 (ha:PE X a ta) (hb:PE X b tb) {σ:St} [Tk X.need s] (I:Inv X pins σ H s)
    (h:ta σ H fun x H1=>tb σ H1 fun y H2=>R x y H2)
    (hf:∀ v u s2 x y H2,Inv X pins σ H2 s2->RelV x v->RelV y u->R x y H2->wpAny (model X.prog X.w) X.A (f v u) Q X.xe s2) :
    wpAny (model X.prog X.w) X.A (eval a X.env) (fun v s₁=>wpAny (model X.prog X.w) X.A (eval b X.env) (fun u s₂=>wpAny (model X.prog X.w) X.A (f v u) Q X.xe s₂) X.xe s₁) X.xe s:=by
  refine cR (ha pins s σ H _ I h) fun v s1 ⟨x,H1,I1,r1,q1⟩=>?_;refine cR (hb pins s1 σ H1 _ I1 q1) fun u s2 ⟨y,H2,I2,r2,q2⟩=>?_;exact hf v u s2 x y H2 I2 r1 r2 q2
theorem aAW {op:Operator} (ho:pN X (binaryOp op) r) (ha:PE X a ta) (hb:PE X b tb):PE X (.BinOp a op b pos) (tOp r ta tb):=by
  intro pins s σ H Q I h _tk;exact wpAny_BinOp (av2 ha hb I h fun v u s2 x y H2 I2 rx ry q=>ho pins s2 σ H2 x y v u Q I2 rx ry q)
theorem aAX {op:UnaryOp} {r:V->Hp->VK->Prop} (ho:UnR X (unaryOp op) r) (ha:PE X a ta):PE X (.UnaryOp op a pos) (tUn r ta):=by
  intro pins s σ H Q I h _tk;exact UnaryOp_ (cR (ha pins s σ H _ I h) fun v s1 ⟨x,H1,I1,r1,q1⟩=>ho pins s1 σ H1 x v Q I1 r1 q1)
theorem opI {C:Int->Int->Prop}
    (rule:∀ (i j:Int) (t u:Tok) (s:Shared) (Q:Value->Shared->Prop) (E:Value->Shared->Prop),C i j->Q (.int (g i j) s.toks) { s with toks:=s.toks+1 }->wpAny (model X.prog X.w) X.A (f (.int i t) (.int j u)) Q E s) :
    pN X f (rI C fun i j => .int (g i j)):=by
  intro pins s σ H x y v u Q I rx ry h;obtain ⟨i,j,rfl,rfl,hc,q⟩:=h;obtain ⟨t,rfl⟩:=rx;obtain ⟨t',rfl⟩:=ry;exact rule i j t t' s _ _ hc ⟨.int (g i j),H,I.tok _,⟨_,rfl⟩,q⟩
theorem aoE
    (rule:∀ (i j:Int) (t u:Tok) (s:Shared) (Q:Value->Shared->Prop) (E:Value->Shared->Prop),Q (.int (g i j) s.toks) { s with toks:=s.toks+1 }->wpAny (model X.prog X.w) X.A (f (.int i t) (.int j u)) Q E s) :
    pN X f (rI0 fun i j => .int (g i j)):=by
  intro pins s σ H x y v u Q I rx ry h;obtain ⟨i,j,rfl,rfl,q⟩:=h;obtain ⟨t,rfl⟩:=rx;obtain ⟨t',rfl⟩:=ry;exact rule i j t t' s _ _ ⟨.int (g i j),H,I.tok _,⟨_,rfl⟩,q⟩
theorem aoF {g:Int->Int->Bool}
    (rule:∀ (i j:Int) (t u:Tok) (s:Shared) (Q:Value->Shared->Prop) (E:Value->Shared->Prop),Q (.bool (g i j)) s->wpAny (model X.prog X.w) X.A (f (.int i t) (.int j u)) Q E s) :
    pN X f (rI0 fun i j => .bl (g i j)):=by
  intro pins s σ H x y v u Q I rx ry h;obtain ⟨i,j,rfl,rfl,q⟩:=h;obtain ⟨t,rfl⟩:=rx;obtain ⟨t',rfl⟩:=ry;exact rule i j t t' s _ _ ⟨.bl (g i j),H,I,rfl,q⟩
noncomputable def av3 (i j:Int):Prop:=0 < j/\j < 1073741824
noncomputable def aAY (i j:Int):Prop:=0<=j/\j<=1000000/\i.natAbs < 2 ^ 64
noncomputable def ajO (i j:Int):Prop:=(-(2 ^ 64) < i/\i < 2 ^ 64)∨(-(2 ^ 64) < j/\j < 2 ^ 64)
theorem ajO.ok {i j:Int} (h:ajO i j):IntMulOk i j:=by
  rcases h with ⟨h1,h2⟩ | ⟨h1,h2⟩
  . exact .of_left (intBits_le_64 h1 h2)
  . exact .of_right (intBits_le_64 h1 h2)
theorem av4:pN X (binaryOp .Add) (rI0 fun i j => .int (i+j)):=aoE fun _ _ _ _ _ _ _ q=>add_int q
theorem av5:pN X (binaryOp .Sub) (rI0 fun i j => .int (i - j)):=aoE fun _ _ _ _ _ _ _ q=>sub_int q
theorem av6:pN X (binaryOp .Mult) (rI ajO fun i j => .int (i * j)):=opI fun _ _ _ _ _ _ _ hc q=>mul_int q hc.ok
theorem aoG:pN X (binaryOp .FloorDiv) (rI av3 fun i j => .int (i / j)):=opI fun i j _ _ _ _ _ hc q=>by
  have h1:(0:Int) < j:=hc.1;have h2:j < 1073741824:=hc.2;exact floordiv_int (by omega) (by rw [Int.fdiv_eq_ediv_of_nonneg i (by omega)];exact q) (.inl (PyProof.noPylong_small (by omega)))
theorem av7:pN X (binaryOp .Mod) (rI (fun _ j=>0 < j) fun i j => .int (i % j)):=opI fun i j _ _ _ _ _ hc q=>by
  have h1:(0:Int) < j:=hc;exact mod_int' (by omega) (by rw [Int.fmod_eq_emod_of_nonneg i (by omega)];exact q)
theorem av8:pN X (binaryOp .Pow) (rI aAY fun i j => .int (i ^ j.toNat)):=opI fun _ _ _ _ _ _ _ hc q=>pow_int_small hc.1 hc.2.1 hc.2.2 q
theorem aoH:pN X (inplaceOp .Add) (rI0 fun i j => .int (i+j)):=aoE fun _ _ _ _ _ _ _ q=>iadd_int q
theorem aoI:pN X (inplaceOp .Sub) (rI0 fun i j => .int (i - j)):=aoE fun _ _ _ _ _ _ _ q=>isub_int q
theorem unI {f:Value->Sem Value} {g:Int->Int}
    (rule:∀ (i:Int) (t:Tok) (s:Shared) (Q:Value->Shared->Prop) (E:Value->Shared->Prop),Q (.int (g i) s.toks) { s with toks:=s.toks+1 }->wpAny (model X.prog X.w) X.A (f (.int i t)) Q E s) :
    UnR X f (rU fun i => .int (g i)):=by
  intro pins s σ H x v Q I rx h;obtain ⟨i,rfl,q⟩:=h;obtain ⟨t,rfl⟩:=rx;exact rule i t s _ _ ⟨.int (g i),H,I.tok _,⟨_,rfl⟩,q⟩
theorem av9:UnR X (unaryOp .USub) (rU fun i => .int (-i)):=unI fun _ _ _ _ _ q=>neg_int q
end
variable {r':R2}{x:V}
section
variable {X:Cx} {a b c:Expr} {ta tb tc:TE} {pos:Pos}
theorem a92 {σ:St} {Q:VK} {k k':Bool} (I:Inv X pins σ H s) (q:Q (.bl k) H) (e:k=k'):EP X pins σ Q (.bool k') s:=by
  subst e;exact ⟨.bl k,H,I,rfl,q⟩
theorem aAZ:pN X (compareOp .Lt) (rI0 fun i j => .bl (decide (i < j))):=aoF fun _ _ _ _ _ _ _ q=>lt_int q
theorem aB0:pN X (compareOp .LtE) (rI0 fun i j => .bl (decide (i<=j))):=aoF fun _ _ _ _ _ _ _ q=>le_int q
theorem aB1:pN X (compareOp .Gt) (rI0 fun i j => .bl (decide (j < i))):=aoF fun _ _ _ _ _ _ _ q=>gt_int q
theorem aB2:pN X (compareOp .GtE) (rI0 fun i j => .bl (decide (j<=i))):=aoF fun _ _ _ _ _ _ _ q=>ge_int q
theorem ahU:pN X (compareOp .In) (fun x y H Q=>∃ i j,x = .str i/\y = .str j/\Q (.bl (!(Builtin.Str.occurrences j i 0 j.length 1).isEmpty)) H):=by
  intro pins s σ H x y v u Q I rx ry h;obtain ⟨i,j,rfl,rfl,q⟩:=h;obtain ⟨t,rfl⟩:=rx;obtain ⟨t',rfl⟩:=ry;exact in_str (a92 I q rfl)
theorem avA:pN X (compareOp .Is) (fun x y H Q=>y = .non/\Q (.bl (decide (x = .non))) H):=by
  intro pins s σ H x y v u Q I rx ry h;obtain ⟨rfl,q⟩:=h;cases ry;refine is_none_gen (a92 I q ?_)
  cases x <;> first
    | (cases rx;rfl)
    | (obtain ⟨t,rfl⟩:=rx;rfl)
theorem aoJ:pN X (compareOp .IsNot) (fun x y H Q=>y = .non/\Q (.bl (!decide (x = .non))) H):=by
  intro pins s σ H x y v u Q I rx ry h;obtain ⟨rfl,q⟩:=h;cases ry;refine isnot_none_gen (a92 I q ?_)
  cases x <;> first
    | (cases rx;rfl)
    | (obtain ⟨t,rfl⟩:=rx;rfl)
theorem a93:pN X (compareOp .NotIn) (fun x y H Q=>∃ i j,x = .str i/\y = .str j/\Q (.bl (!(!(Builtin.Str.occurrences j i 0 j.length 1).isEmpty))) H):=by
  intro pins s σ H x y v u Q I rx ry h;obtain ⟨i,j,rfl,rfl,q⟩:=h;obtain ⟨t,rfl⟩:=rx;obtain ⟨t',rfl⟩:=ry;exact notIn_str (a92 I q rfl)
theorem pN.or (h:pN X f r) (h':pN X f r'):pN X f (fun x y H Q=>r x y H Q∨r' x y H Q):=by
  intro pins s σ H x y v u Q I rx ry q;rcases q with q | q
  . exact h pins s σ H x y v u Q I rx ry q
  . exact h' pins s σ H x y v u Q I rx ry q
theorem aGC (b:Expr) (h:op ≠ .In:=by decide) (h2:op ≠ .NotIn:=by decide):behindInMarks op b=false:=by
  have e1:(op == CmpOp.In)=false:=by cases op <;> first | rfl | exact absurd rfl h
  have e2:(op == CmpOp.NotIn)=false:=by cases op <;> first | rfl | exact absurd rfl h2
  cases b <;> simp [behindInMarks,e1,e2]
theorem aoK (ho:pN X (compareOp op) r) (ha:PE X a ta) (hb:PE X b tb) (hm:behindInMarks op b=false):PE X (.Compare a [op] [b] pos) (tOp r ta tb):=by
  intro pins s σ H Q I h _tk;exact wpAny_Compare1 (av2 ha hb I h fun v u s2 x y H2 I2 rx ry q=>ho pins s2 σ H2 x y v u Q I2 rx ry q) hm
noncomputable def ajP (t:TE):TT:=fun σ H Q=>t σ H fun x H'=>∃ k,x = .bl k/\Q k H'
theorem aoL (ho:pN X (compareOp op) r) (ha:PE X a ta) (hb:PE X b tb) (hm:behindInMarks op b=false):PT X (.Compare a [op] [b] pos) (ajP (tOp r ta tb)):=by
  intro pins s σ H Q I h _tk
  refine wpAny_isTrue_Compare1 (cR (ha pins s σ H _ I h) fun v s1 ⟨x,H1,I1,r1,q1⟩=>cR (hb pins s1 σ H1 _ I1 q1) fun u s2 ⟨y,H2,I2,r2,q2⟩ =>
    cR (ho pins s2 σ H2 x y v u _ I2 r1 r2 q2) fun c s3 ⟨z,H3,I3,r3,k,e,q3⟩=>?_) hm
  subst e;cases r3;exact wpAny_truthy_bool ⟨H3,I3,q3⟩
noncomputable def adG (r r':R2) (ta tb tc:TE):TE:=fun σ H Q=>ta σ H fun x H1=>tb σ H1 fun y H2=>r x y H2 fun z H3=>∃ k,z = .bl k /\
  (if k=true then tc σ H3 fun w' H4=>r' y w' H4 Q else Q (.bl false) H3)
theorem ajQ (ho:pN X (compareOp op) r) (ho':pN X (compareOp op') r') (ha:PE X a ta) (hb:PE X b tb) (hc:PE X c tc)
    (hm:lastMarks [op,op'] [b,c]=false:=by with_unfolding_all rfl):PE X (.Compare a [op,op'] [b,c] pos) (adG r r' ta tb tc):=by
  intro pins s σ H Q I h _tk
  refine Compare_chain (cR (ha pins s σ H _ I h) fun v s1 ⟨x,H1,I1,r1,q1⟩=>chain_link (cR (hb pins s1 σ H1 _ I1 q1) fun u s2 ⟨y,H2,I2,r2,q2⟩ =>
    cR (ho pins s2 σ H2 x y v u _ I2 r1 r2 q2) fun d s3 ⟨z,H3,I3,r3,k,e,q3⟩=>?_)) hm
  subst e;cases r3;refine wpAny_truthy_bool ?_;cases k with
  | false=>exact ite_ff ⟨.bl false,H3,I3,rfl,q3⟩
  | true=>exact ite_tt (chain_last (cR (hc pins s3 σ H3 _ I3 q3) fun w' s4 ⟨z',H4,I4,r4,q4⟩=>ho' pins s4 σ H4 y z' u w' Q I4 r2 r4 q4))
theorem ajR (ho:pN X (compareOp op) r) (ho':pN X (compareOp op') r') (ha:PE X a ta) (hb:PE X b tb) (hc:PE X c tc)
    (hm:lastMarks [op,op'] [b,c]=false:=by with_unfolding_all rfl):PT X (.Compare a [op,op'] [b,c] pos) (ajP (adG r r' ta tb tc)):=by
  intro pins s σ H Q I h _tk
  refine isTrue_chain (cR (ha pins s σ H _ I h) fun v s1 ⟨x,H1,I1,r1,q1⟩=>test_link (cR (hb pins s1 σ H1 _ I1 q1) fun u s2 ⟨y,H2,I2,r2,q2⟩ =>
    cR (ho pins s2 σ H2 x y v u _ I2 r1 r2 q2) fun d s3 ⟨z,H3,I3,r3,k,e,q3⟩=>?_)) hm
  subst e;cases r3;refine wpAny_truthy_bool ?_;cases k with
  | false =>
    obtain ⟨k',e',q'⟩:=q3;cases e';exact ite_ff ⟨H3,I3,q'⟩
  | true =>
    refine ite_tt (test_last (cR (hc pins s3 σ H3 _ I3 q3) fun w' s4 ⟨z',H4,I4,r4,q4⟩=>cR (ho' pins s4 σ H4 y z' u w' _ I4 r2 r4 q4) fun d' s5 ⟨z2,H5,I5,r5,k2,e2,q5⟩=>?_));subst e2;cases r5;exact wpAny_truthy_bool ⟨H5,I5,q5⟩
theorem a4A:(sizeLine:Nat) < 2 ^ 63:=by rw [sizeLine_eq];decide
theorem adH:pN X (binaryOp .Add) (fun x y H Q=>∃ i j,x = .str i/\y = .str j/\i.length+j.length<=sizeLine/\Q (.str (i++j)) H):=by
  intro pins s σ H x y v u Q I rx ry h;obtain ⟨i,j,rfl,rfl,hz,q⟩:=h;obtain ⟨t,rfl⟩:=rx;obtain ⟨t',rfl⟩:=ry;exact add_str (fun t' tk=>⟨.str (i++j),H,I.tok _,⟨_,rfl⟩,q⟩) hz
theorem vals1 (r:Vals [x] us):∃ u,us=[u]/\RelV x u:=by
  cases r with
  | cons r1 r2=>cases r2;exact ⟨_,rfl,r1⟩
theorem vals2 (r:Vals [x,y] us):∃ u w',us=[u,w']/\RelV x u/\RelV y w':=by
  cases r with
  | cons r1 r2 =>
    cases r2 with
    | cons r3 r4=>cases r4;exact ⟨_,_,rfl,r1,r3⟩
theorem ahV (hc:X.calm=true):rA X (.builtin "max") (fun xs H Q=>∃ i j,xs=[.int i,.int j]/\Q (.int (if j > i then j else i)) H):=by
  intro pins s σ H xs us Q I r h;obtain ⟨i,j,rfl,q⟩:=h;obtain ⟨u,w',rfl,⟨t,rfl⟩,⟨t',rfl⟩⟩:=vals2 r;refine max_two_ints (I.ok.hd hc) fun h' tk k=>⟨_,H,I.kept k,?_,q⟩;by_cases hj:j > i
  . rw [if_pos hj,if_pos hj];exact ⟨_,rfl⟩
  . rw [if_neg hj,if_neg hj];exact ⟨_,rfl⟩
theorem ahW (hc:X.calm=true):rA X (.builtin "min") (fun xs H Q=>∃ i j,xs=[.int i,.int j]/\Q (.int (if j < i then j else i)) H):=by
  intro pins s σ H xs us Q I r h;obtain ⟨i,j,rfl,q⟩:=h;obtain ⟨u,w',rfl,⟨t,rfl⟩,⟨t',rfl⟩⟩:=vals2 r;refine min_two_ints (I.ok.hd hc) fun h' tk k=>⟨_,H,I.kept k,?_,q⟩;by_cases hj:j < i
  . rw [if_pos hj,if_pos hj];exact ⟨_,rfl⟩
  . rw [if_neg hj,if_neg hj];exact ⟨_,rfl⟩
theorem ahX:rA X (.type "int") (fun xs H Q=>(∃ i,xs=[.int i]/\Q (.int i) H)∨∃ k,xs=[.bl k]/\Q (.int (if k then 1 else 0)) H):=by
  intro pins s σ H xs us Q I r h;rcases h with ⟨i,rfl,q⟩ | ⟨k,rfl,q⟩
  . obtain ⟨u,rfl,t,rfl⟩:=vals1 r;exact call_int_int ⟨.int i,H,I,⟨_,rfl⟩,q⟩
  . obtain ⟨u,rfl,r1⟩:=vals1 r;cases r1;exact call_int_bool ⟨.int (if k then 1 else 0),H,I.tok _,⟨_,rfl⟩,q⟩
end
end
variable {C:Addr}{kw:List (Str×Value)}
section
section
variable {prog:Program} {w:World} {A:Around} {E:Value->Shared->Prop} {s:Shared} {K:bx} {x dx C f:Addr} {mA:Str->Option Value} {name:Str} {v:Value}
theorem ajS {R:Result->Shared->Prop} {vs:List Value} (X:K.In s.heap) (hm:PySem.W.makesIn K C=true)
    (hi:jt K (.ref C) "__init__" = some (some (.ref f))) (hf:jz K (.ref f)=some (.type "function"))
    (h:codeAny (model prog w) (A.under (.builtin "type.__call__" ⟨.ref C :: vs,kw⟩)) (.call (.ref f) ⟨.ref (s.heap.objs.size+1) :: vs,kw⟩) (PySem.W.InitBack (s.heap.objs.size+1) R)
      { s with heap:=(s.heap.push qe).push (ur C s.heap.objs.size) }) :
    codeAny (model prog w) A (.call (.ref C) ⟨vs,kw⟩) R s:=by
  obtain ⟨hh,g,d,t,os⟩:=s;exact PySem.W.make_core (PySem.W.makes_of X hm) (PySem.W.looks_findIn X hi) (fun self=>PySem.W.bind_fn X self hf) (.inl rfl) h
end
theorem a1K.some_of {o:Option Value} (r:a1K (some v) o):∃ u,o=some u/\RelV v u:=by
  cases o with
  | none=>exact (show False from r).elim
  | some u=>exact ⟨u,rfl,r⟩
section
variable {P:Program} {w:World} {H H':Hp} {h h':Heap} {a C dx:Addr} {fs fs':List (Str×V)}
end
structure Cls (K:bx) (C:Addr):Prop where
  pg:PySem.W.plainGet K C Str.empty=true
  hd:PySem.W.hasDictIn K C=true
  po:PySem.W.plainOver K C=true
  sa:jt K (.ref C) "__setattr__" = some (some (.builtin "object.__setattr__"))
theorem Cls.get {K:bx} (c:Cls K C) (f:Str):PySem.W.plainGet K C f=true:=c.pg
noncomputable def ajT (K:bx) (C:Addr) (f:Str):Prop:=jt K (.ref C) f=some none
structure Meth (K:bx) (C:Addr) (m:Str) (f:Addr):Prop where
  at_:jt K (.ref C) m=some (some (.ref f))
  fn:PySem.W.isFn K (.ref f)=true
  kp:jy K (.ref f)=true
section
variable {X:Cx} {pins:List (Addr×Obj)} {σ:St} {H:Hp} {s:Shared} {a C dx:Addr} {fs:List (Str×V)} {f:Str} {v:V} {A:Around} {E:Value->Shared->Prop}
theorem Inv.made (I:Inv X pins σ H s):Inv X pins σ (upd (upd H s.heap.objs.size (.own (s.heap.objs.size+1))) (s.heap.objs.size+1) (.ins C s.heap.objs.size []))
    { s with heap:=(s.heap.push qe).push (ur C s.heap.objs.size) }:=by
  have e1:(s.heap.push qe).get? s.heap.objs.size=some qe:=dj s.heap rfl
  have e2:((s.heap.push qe).push (ur C s.heap.objs.size)).get? (s.heap.objs.size+1)=some (ur C s.heap.objs.size):=by
    have:=dj (s.heap.push qe) (o:=ur C s.heap.objs.size) rfl
    rwa [qm] at this
  have e3:(s.heap.push qe).Ns s.heap.objs.size (fun _=>none):=⟨qe,#[],_,e1,rfl,(fun e he=>absurd he (by simp)),fun _=>rfl⟩;have I1:=I.laid (a:=s.heap.objs.size) (o := .own (s.heap.objs.size+1)) (h':=s.heap.push qe) (t':=s.toks) (fun b u q=>ao _ q) (bw _) ⟨_,e1⟩;refine I1.laid (a:=s.heap.objs.size+1) (o := .ins C s.heap.objs.size []) (t':=s.toks) (fun b u q=>ao _ q) (wu (qm _ _)) ?_;have ne:s.heap.objs.size≠s.heap.objs.size+1:=dw (Nat.lt_succ_self _);refine ⟨by rw [aJ ne,aF],oh _,ne,e2,fun _=>none,(Heap.Ns1.of_empty e3).at fun o q=>ao _ q,fun _=>True.intro,fun y hy=>absurd rfl hy⟩
end
section
variable {X:Cx} {o e value:Expr} {f:Str} {pos pos' tpos:Pos} {ta tv:TE}
end
section
variable {X:Cx} {pins:List (Addr×Obj)} {σ:St} {H:Hp} {s:Shared} {A:Around} {E:Value->Shared->Prop} {Q:Value->Shared->Prop} {c:Value} {b:Bool}
end
end
variable {mg:Str->Option Value}{base:Heap}{fd:FuncData}{ps:List Str}{outer:List Env}{qual:Str}{scope:Scope}
section
structure cO (qt:Bool) (k:Nat) (A:Around):Prop where
  hd:qt=false->A.handled=none
  dp:A.depth+3 * k+5 < recursionLimit
  un:A.units+16 * k+200 < cLine
theorem cO.mono {k:Nat} (r:cO qt k A) (h:j<=k):cO qt j A:=⟨r.hd,by have:=r.dp;omega,by have:=r.un;omega⟩
theorem cO.deeper {k:Nat} (r:cO qt (k+1) A) (env:Env):cO qt k (A.deeper env) :=
  ⟨r.hd,by have:=r.dp;show A.depth+1+3 * k+5 < _;omega,by have:=r.un;show A.units+3+16 * k+200 < _;omega⟩
theorem cO.in1 {k:Nat} (r:cO qt (k+1) A):cO qt k A.in1 :=
  ⟨r.hd,by have:=r.dp;show A.depth+3 * k+5 < _;omega,by have:=r.un;show A.units+1+16 * k+200 < _;omega⟩
theorem adI:(A.under (.builtin "type.__call__" ⟨.ref C :: us,kw⟩)).depth=A.depth+1:=by
  first | rfl | simp [Around.under,Code.weight,Code.isCreation,Code.isGuard,Code.isCaller,Code.frames,Code.isFrame,guardIds]
theorem adJ:(A.under (.builtin "type.__call__" ⟨.ref C :: us,kw⟩)).units=A.units+1:=by
  first | rfl | simp [Around.under,Code.cUnits,Code.frames,Code.isFrame]
theorem cO.make {k:Nat} (r:cO qt (k+1) A) (C:Addr) (us:List Value) (kw:List (Str×Value)):cO qt k (A.under (.builtin "type.__call__" ⟨.ref C :: us,kw⟩)) :=
  ⟨r.hd,by have:=r.dp;rw [adI];omega,by have:=r.un;rw [adJ];omega⟩
theorem cO.depth {k:Nat} (r:cO qt k A):A.depth < recursionLimit:=by have:=r.dp;omega
theorem cO.units {k:Nat} (r:cO qt k A):A.units+64 < cLine:=by have:=r.un;omega
noncomputable def aB3:TA:=fun _ H Q=>Q [] H
noncomputable def asO (ta:TE) (tr:TA):TA:=fun σ H Q=>ta σ H fun x H1=>tr σ H1 fun xs H2=>Q (x :: xs) H2
section
variable {X:Cx} {e:Expr} {es:List Expr} {te:TE} {t:TA} {pos:Pos}
theorem avB:PA X [] aB3:=fun _ _ _ _ H Q I h=>Calls.spliced_nil ⟨[],H,I,.nil,h⟩
theorem aoM (ha:PE X e te) (hr:PA X es t) (hs:starEach (e :: es) X.env=(false,eval e X.env) :: starEach es X.env:=by rfl):PA X (e :: es) (asO te t):=by
  intro pos pins s σ H Q I h _tk;rw [hs];show wpAny _ _ (spliced ((false,eval e X.env) :: backTo pos (starEach es X.env))) _ _ s;refine Calls.spliced_cons (cR (ha pins s σ H _ I h) fun u s1 ⟨x,H1,I1,r1,q1⟩=>?_);exact cR (hr pos pins s1 σ H1 _ I1 q1) fun us s2 ⟨xs,H2,I2,r2,q2⟩=>⟨x :: xs,H2,I2,.cons r1 r2,q2⟩
noncomputable def aGD (t:TA):TE:=fun σ H Q=>t σ H fun xs H1=>xs.length<=sizeLine/\∀ p,H1 p=none->Q (.ref p) (upd H1 p (.tup xs))
noncomputable def aGE (t:TA):TE:=fun σ H Q=>t σ H fun xs H1=>xs.length<=sizeLine/\∀ p,H1 p=none->Q (.ref p) (upd H1 p (.lst xs))
theorem avC {x1} (h:PA X es t):PE X (.Tuple es x1 pos) (aGD t):=by
  intro pins s σ H Q I hq _tk;refine wpAny_Tuple_spliced (cR (h pos pins s σ H _ I hq) fun us s1 ⟨xs,H1,I1,r,z,q⟩=>⟨by rw [← r.length];exact z,?_⟩);have hf:H1 s1.heap.objs.size=none:=I1.hok.fresh (bw _);refine ⟨.ref s1.heap.objs.size,upd H1 s1.heap.objs.size (.tup xs),I1.laid (t':=s1.toks) (fun b u e=>ao _ e) (bw _) ?_,rfl,q _ hf⟩;exact ⟨z,us,r,⟨_,dj _ rfl,rfl,_,rfl⟩⟩
theorem avD (h:PA X es t):PE X (.List es pos) (aGE t):=by
  intro pins s σ H Q I hq _tk;refine wpAny_List_spliced (cR (h pos pins s σ H _ I hq) fun us s1 ⟨xs,H1,I1,r,z,q⟩=>⟨by rw [← r.length];exact z,?_⟩);have hf:H1 s1.heap.objs.size=none:=I1.hok.fresh (bw _);refine ⟨.ref s1.heap.objs.size,upd H1 s1.heap.objs.size (.lst xs),I1.laid (t':=s1.toks) (fun b u e=>ao _ e) (bw _) ?_,rfl,q _ hf⟩;exact ⟨z,us,0,r,dj _ rfl⟩
end
noncomputable abbrev Sp:=List V->Hp->VK->XK->Prop
noncomputable abbrev CXT:=List Env->Hp->Shared->XK->Value->Shared->Prop
structure vG (P:Program) (w:World) (K:bx) (mg:Str->Option Value) (base:Heap) (A:Around) (outer:List Env) (s:Shared) (H:Hp):Prop where
  frames:A.frames=some outer
  mod:Mod K mg base
  bs:∀ b o,base.get? b=some o->s.heap.get? b=some o/\H b=none
  bsz:base.objs.size<=s.heap.objs.size
  mQ:s.heap.FunFrames base outer
  frf:∀ b∈frs outer,H b=none
  hok:qL P w H s.heap
  bare:AllBare s.gens
  hnd:Hnd A H
noncomputable def CE (outer:List Env) (P:Program) (w:World) (H:Hp) (s:Shared) (Q:VK) (u:Value) (s':Shared):Prop :=
  ∃ v H',s'.os=s.os/\AllBare s'.gens/\Un (frs outer) [] H H' s.heap s'.heap/\qL P w H' s'.heap/\RelV v u/\Q v H'
noncomputable def CR (CX:CXT) (outer:List Env) (P:Program) (w:World) (H:Hp) (s:Shared) (Q:VK) (E:XK) (r:Result) (s':Shared):Prop :=
  match r with
  | .ok (.ret u)=>CE outer P w H s Q u s'
  | .ok _=>False
  | .error e=>CX outer H s E e s'
structure cG (qt:Bool) (P:Program) (w:World) (K:bx) (mg:Str->Option Value) (base:Heap) (CX:CXT) (k:Nat) (f:Addr) (fd:FuncData) (ps:List Str) (sp:Sp):Prop where
  len:∀ vs H Q E,sp vs H Q E->vs.length=ps.length
  run:∀ (A:Around) (outer:List Env) (s:Shared) (H:Hp) (args:Args) (us:List Value) (vs:List V) (Q:VK) (E:XK),cO qt k A->vG P w K mg base A outer s H->BindsTo s fd args (ps.zip us)->Vals vs us->sp vs H Q E ->
    codeAny (model P w) A (.call (.ref f) args) (CR CX outer P w H s Q E) s
theorem cG.mono {P:Program} {w:World} {K:bx} {mg:Str->Option Value} {base:Heap} {CX:CXT} {j k:Nat} {f:Addr} {fd:FuncData} {ps:List Str} {sp:Sp} (F:cG qt P w K mg base CX j f fd ps sp) (h:j<=k) :
    cG qt P w K mg base CX k f fd ps sp:=⟨F.len,fun A outer s H args us vs Q E hr=>F.run A outer s H args us vs Q E (hr.mono h)⟩
variable {CX:CXT}{f:Addr}{sp:Sp}
theorem cG.imp {w:World} {K:bx} {k:Nat} {sp':Sp} (F:cG qt P w K mg base CX k f fd ps sp)
    (h:∀ vs H Q E,sp' vs H Q E->sp vs H Q E):cG qt P w K mg base CX k f fd ps sp' :=
  ⟨fun vs H Q E q=>F.len vs H Q E (h _ _ _ _ q),fun A outer s H args us vs Q E hr he hb hv hs=>F.run A outer s H args us vs Q E hr he hb hv (h _ _ _ _ hs)⟩
theorem vG.make {w:World} {K:bx} (e:vG P w K mg base A outer s H) (C:Addr) (us:List Value) (kw:List (Str×Value)) :
    vG P w K mg base (A.under (.builtin "type.__call__" ⟨.ref C :: us,kw⟩)) outer s H:=⟨by first | exact e.frames | (simpa [Around.under,Code.envs,Code.isFrame,pushEnvs] using e.frames),e.mod,e.bs,e.bsz,e.mQ,e.frf,e.hok,e.bare,e.hnd⟩
theorem vG.in1 {w:World} {K:bx} (e:vG P w K mg base A outer s H) :
    vG P w K mg base A.in1 outer s H:=⟨e.frames,e.mod,e.bs,e.bsz,e.mQ,e.frf,e.hok,e.bare,e.hnd⟩
section
variable {X:Cx} {pins:List (Addr×Obj)} {σ:St} {H:Hp} {s s':Shared}
theorem Inv.env0 (I:Inv X pins σ H s):vG X.prog X.w X.K X.mg X.base X.A X.stack s H :=
  ⟨I.ok.frames,I.ok.mod,I.bs,jd I.ok.bsz I.sz,I.stack,I.a8Z,I.hok,I.bare,I.hnd⟩
end
noncomputable def Binds (K:bx) (fd:FuncData) (ps:List Str) (ds:List Value):Prop :=
  ∀ (s:Shared) (us:List Value),K.In s.heap->(us++ds).length=ps.length->BindsTo s fd ⟨us,[]⟩ (ps.zip (us++ds))
theorem Binds.all {K:bx} (h:∀ us:List Value,us.length=ps.length->bindArgs fd ⟨us,[]⟩=pure (ps.zip us)):Binds K fd ps []:=fun s us _ hl=>by
  rw [vq] at hl ⊢;exact .of_eq (h us hl)
section
variable {X:Cx} {CX:CXT} {k:Nat} {f C:Addr} {fd:FuncData} {ps:List Str} {sp:Sp} {zX:List V} {ds:List Value} {E:XK} {x m:Str} {p pos apos:Pos} {e o:Expr} {es:List Expr} {ta:TE} {t:TA}
structure Mk (K:bx) (C f:Addr):Prop where
  makes:PySem.W.makesIn K C=true
  init:jt K (.ref C) "__init__" = some (some (.ref f))
  fn:PySem.W.isFn K (.ref f)=true
  kp:jy K (.ref C)=true
end
noncomputable def PK (X:Cx) (kws:List Keyword) (t:TA):Prop :=
  ∀ (pos:Pos) (pins:List (Addr×Obj)) (s:Shared) (σ:St) (H:Hp) (Q:List V->Hp->Prop),Inv X pins σ H s->t σ H Q->[Tk X.need s]->wpAny (model X.prog X.w) X.A (evalAll ((backToKw pos (keywordEach kws X.env)).map (·.2))) (AP X pins σ Q) X.xe s
section
variable {X:Cx} {CX:CXT} {k:Nat} {f C:Addr} {fd:FuncData} {ps ks:List Str} {sp:Sp} {E:XK} {x m:Str} {p pos apos kpos:Pos} {e o:Expr} {es:List Expr} {kws:List Keyword} {te ta:TE} {t tk:TA} {nm:Option Str}
theorem avE:PK X [] aB3:=fun _ _ _ _ H Q I h=>wpAny_evalAll_nil ⟨[],H,I,.nil,h⟩
theorem aoN (ha:PE X e te) (hr:PK X kws t):PK X (⟨nm,e,kpos⟩ :: kws) (asO te t):=by
  intro pos pins s σ H Q I h _tk;show wpAny _ _ (evalAll ((do let v ← eval e X.env;standAt pos;pure v) :: (backToKw pos (keywordEach kws X.env)).map (·.2))) _ _ s;refine wpAny_evalAll_cons (aj (cR (ha pins s σ H _ I h) fun u s1 ⟨x,H1,I1,r1,q1⟩=>aj (wpAny_standAt (aq ?_))));exact cR (hr pos pins s1 σ H1 _ I1 q1) fun us s2 ⟨xs,H2,I2,r2,q2⟩=>⟨x :: xs,H2,I2,.cons r1 r2,q2⟩
variable {g:List Value->List Value->List Value} {gV:List V->List V->List V}
end
structure bD (N P:List Str) (sc:Scope):Prop where
  kind:sc.kind = .function
  co:sc.isCoroutine=false
  gen:sc.isGenerator=false
  nd:N.Nodup
  pre:N.take P.length=P
  par:∀ x∈P,sc.names.lookup x=some .local∨sc.names.lookup x=some .cell
  avF:∀ y∈sc.names,y.2 ≠ .free
theorem a7V {kindOf:Str->Option NameKind} {x:Str}:∀ {binds:List (Str×Value)} {m:Str->Option Value},(∀ v,(x,v) ∉ binds)->bindL kindOf binds m x=m x
  | [],_,_=>rfl
  | (n,v) :: r,m,h=>by
    unfold bindL;rw [a7V fun w hw=>h w (iw _ hw)];split
    . have:x≠n:=by rintro rfl;exact h v qj
      simp [this]
    . rfl
theorem a7W {kindOf:Str->Option NameKind} {x:Str}:∀ {binds:List (Str×Value)} {m:Str->Option Value},(∀ v,(x,v) ∉ binds)->bindC kindOf binds m x=m x
  | [],_,_=>rfl
  | (n,v) :: r,m,h=>by
    unfold bindC;rw [a7W fun w hw=>h w (iw _ hw)];split
    . rfl
    . have:x≠n:=by rintro rfl;exact h v qj
      simp [this]
theorem a1N {kindOf:Str->Option NameKind} {x:Str} {v:Value}:∀ {P:List Str} {vs:List Value} {i:Nat} {m:Str->Option Value},P.Nodup->P[i]?=some x->vs[i]?=some v->kindOf x=some .local ->
    bindL kindOf (P.zip vs) m x=some v
  | [],_,_,_,_,h,_,_=>by simp at h
  | _ :: _,[],_,_,_,_,h,_=>by simp at h
  | p :: P,w :: vs,0,m,nd,h1,h2,hk=>by
    simp at h1 h2;subst h1;subst h2;show bindL kindOf ((p,w) :: P.zip vs) m p=_;unfold bindL;rw [a7V fun v hv=>(uf.mp nd).1 (ug hv).1,if_pos hk];simp
  | p :: P,w :: vs,i+1,m,nd,h1,h2,hk=>by
    show bindL kindOf ((p,w) :: P.zip vs) m x=_;unfold bindL;exact a1N (i:=i) (uf.mp nd).2 (by simpa using h1) (by simpa using h2) hk
theorem a7X {kindOf:Str->Option NameKind} {x:Str} {v:Value}:∀ {P:List Str} {vs:List Value} {i:Nat} {m:Str->Option Value},P.Nodup->P[i]?=some x->vs[i]?=some v->kindOf x≠some .local ->
    bindC kindOf (P.zip vs) m x=some v
  | [],_,_,_,_,h,_,_=>by simp at h
  | _ :: _,[],_,_,_,_,h,_=>by simp at h
  | p :: P,w :: vs,0,m,nd,h1,h2,hk=>by
    simp at h1 h2;subst h1;subst h2;show bindC kindOf ((p,w) :: P.zip vs) m p=_;unfold bindC;rw [a7W fun v hv=>(uf.mp nd).1 (ug hv).1,if_neg hk];simp
  | p :: P,w :: vs,i+1,m,nd,h1,h2,hk=>by
    show bindC kindOf ((p,w) :: P.zip vs) m x=_;unfold bindC;exact a7X (i:=i) (uf.mp nd).2 (by simpa using h1) (by simpa using h2) hk
noncomputable def start (N:List Str) (vs:List V):St:=vs.map some++um (N.length - vs.length) none
noncomputable def gQ (qt:Bool) (CX:CXT) (P:Program) (w:World) (K:bx) (mg:Str->Option Value) (base:Heap) (N:List Str) (qual:Str) (scope:Scope) (f:Addr) (cd:Value) (A:Around) (outer:List Env) (s:Shared) (H:Hp) (E:XK):Cx where
  prog:=P
  w:=w
  K:=K
  mg:=mg
  base:=base
  A:=A.deeper (envOfC qual scope s.heap.objs.size f cd)
  N:=N
  s₀:=s
  H₀:=H
  env:=envOfC qual scope s.heap.objs.size f cd
  outer:=outer
  stack:=envOfC qual scope s.heap.objs.size f cd :: outer
  ex:=[]
  calm:=!qt
  fn:=fun _=>true
  pn:=[]
  tp:=[]
  xe:=fun e s'=>wpAny (model P w) (A.deeper (envOfC qual scope s.heap.objs.size f cd)) (leaving (envOfC qual scope s.heap.objs.size f cd) e) (fun _ s''=>CX outer H s E e s'') (fun e' s''=>CX outer H s E e' s'') s'
instance aJ2 {qt:Bool} {CX:CXT} {P:Program} {w:World} {K:bx} {mg:Str->Option Value} {base:Heap} {N:List Str} {qual:Str} {scope:Scope} {f:Addr} {cd:Value} {A:Around} {outer:List Env} {s s1:Shared} {H:Hp} {E:XK}:Tk (gQ qt CX P w K mg base N qual scope f cd A outer s H E).need s1:=⟨fun z=>nomatch z⟩
theorem vH {sc:Scope} (h:sc.names.lookup x=some .cell):∃ c,(cellsFrom n sc.names []).lookup x=some c:=by
  have q:=yg sc.names n [] (.inl h);exact wz.mp q
theorem a1O {w:World} {K:bx} {cd:Value} {s1:Shared} {E:XK} {vs:List V}
    (S:bD N ps scope) (hd:qt=false->A.handled=none) (e0:vG P w K mg base A outer s H) (hl:vs.length=ps.length) (r:Vals vs us)
    (x:InCallC s s.heap.objs.size (bindL (envOfC qual scope s.heap.objs.size f cd).kindOf (ps.zip us) fun _=>none) (cellsFrom (s.heap.objs.size+1) scope.names []) (bindC (envOfC qual scope s.heap.objs.size f cd).kindOf (ps.zip us) fun _=>none) s1) :
    Inv (gQ qt CX P w K mg base N qual scope f cd A outer s H E) [] (start N vs) H s1:=by
  have hpl:ps.length<=N.length:=by have:=congrArg List.length S.pre;rw [ou] at this;omega
  obtain ⟨h1,tk,rfl,hk⟩:=x.done;have noA:∀ b:Addr,b ∉ (gQ qt CX P w K mg base N qual scope f cd A outer s H E).ex:=fun b z=>absurd (show b∈([]:List Addr) from z) (by simp)
  refine ⟨⟨e0.mod,S.kind,rfl,rfl,bw _,fun y z c h1 h2=>?_,fun y hy=>?_,fun y c _ h=>?_,fun z=>hd (by cases qt with | false=>rfl | true=>cases z),Around.frames_deeper e0.frames,.inr ⟨rfl,rfl⟩,fun b z=>absurd z (noA b),e0.bs,e0.bsz,fun b _ _=>noA b,fun b z=>absurd z (noA b),e0.mQ,e0.frf⟩,
    rfl,e0.bare,Un.kept hk,⟨_,x.toInCall.ns,fun i y v h1 h2 h3=>?_⟩,fun y c h=>⟨_,x.cell y c h⟩,e0.hok.fresh (bw _),fun y c h=>?_,fun p hp=>absurd (show p∈([]:List (Addr×Obj)) from hp) (by simp),e0.hok.kept hk,?_,e0.hnd,fun p hp=>absurd (show p∈([]:List (Addr×List V)) from hp) (by simp)⟩
  . exact name_of_addr x.apart (PySem.mem_of_lookup h1) (PySem.mem_of_lookup h2)
  . have hy:scope.names.lookup y=some .cell∨scope.names.lookup y=some .free:=hy;rcases hy with hy | hy
    . exact vH hy
    . exact absurd rfl (S.avF _ (PySem.mem_of_lookup hy))
  . exact nj (x.above y c (PySem.mem_of_lookup h))
  . have hi:i < vs.length:=by
      unfold start at h2;by_cases hi:i < vs.length
      . exact hi
      . rw [qd (by simpa using hi)] at h2;rw [List.getElem?_replicate] at h2;split at h2 <;> cases h2
    have ha:vs[i]?=some v:=by
      unfold start at h2;rw [qu (by simpa using hi),jo] at h2;cases e:vs[i]? with
      | none=>rw [e] at h2;cases h2
      | some a=>rw [e] at h2;cases h2;rfl
    obtain ⟨u,hu,rv⟩:=r.get ha
    have hp:ps[i]?=some y:=by
      rw [← S.pre,xg (by omega)];exact h1
    have ndP:ps.Nodup:=by rw [← S.pre];exact S.nd.sublist (List.take_sublist _ _)
    refine ⟨u,rv,?_⟩;rcases S.par y (jk hp) with k | k
    . exact .inl ⟨k,a1N ndP hp hu k⟩
    . obtain ⟨c,e⟩:=vH (n:=s.heap.objs.size+1) k;refine .inr ⟨.inl k,c,e,?_⟩;have q:=x.cell y c e;rw [a7X ndP hp hu (by show scope.names.lookup y≠_;rw [k];decide)] at q;exact q
  . exact e0.hok.fresh (nj (x.above y c (PySem.mem_of_lookup h)))
  . unfold start;show _=N.length;rw [iz,au,List.length_replicate];omega
theorem ajU {w:World} {K:bx} {k:Nat} {name:Str} {params:Arguments} {dV kV doc pm cdv ct oc:Value} {an od:Option Addr}
    {osl:Array (Option Value)} (lk:K.lookup f=some ⟨oc,od,.func (nu name qual params body scope dV kV doc pm an cdv ct),osl⟩) (hcd:uo K cdv qual=true) (S:bD N ps scope)
    (len:∀ vs H Q E,sp vs H Q E->vs.length=ps.length)
    (hbody:∀ (A:Around) (outer:List Env) (s:Shared) (H:Hp) (vs:List V) (Q:VK) (E:XK),cO qt k (A.deeper (envOfC qual scope s.heap.objs.size f cdv))->sp vs H Q E ->
      ∃ t,PSs (gQ qt CX P w K mg base N qual scope f cdv A outer s H E) body t/\t { nx:=fun _ H'=>Q .non H',rt:=Q } (start N vs) H) :
    cG qt P w K mg base CX (k+1) f (nu name qual params body scope dV kV doc pm an cdv ct) ps sp:=by
  refine ⟨len,fun A outer s H args us vs Q E hr e0 hb r hsp=>?_⟩;have hl:=len _ _ _ _ hsp;have KX:K.In s.heap:=e0.mod.kin.keeps fun b o e=>(e0.bs b o e).1;have lim:s.heap.NoLimit:=e0.mod.nolimit.keeps fun b o e=>(e0.bs b o e).1
  have hkind:∀ y∈ps.zip us,scope.names.lookup y.1=some .local∨(scope.names.lookup y.1=some .cell/\((cellsFrom (s.heap.objs.size+1) scope.names []).lookup y.1).isSome=true):=fun ⟨n,v⟩ hy=>by
    rcases S.par n (ug hy).1 with q | q
    . exact .inl q
    . exact .inr ⟨q,yg _ _ _ (.inl q)⟩
  refine codeAny_call_function hr.depth (KX _ _ lk) rfl S.co S.gen rfl (a0c KX hcd) (hb _ _ _ _ ?_);refine wpAny_newFunctionEnv_cells S.kind hkind fun env he s1 x=>?_;subst he;refine ⟨lim.keeps x.toInCall.keep,codeAny_func ?_⟩;obtain ⟨t,ht,hq⟩:=hbody A outer s H vs Q E (hr.deeper _) hsp;have I:Inv (gQ qt CX P w K mg base N qual scope f cdv A outer s H E) [] (start N vs) H s1:=a1O S hr.hd e0 hl r x;refine wpAny_mono (@ht [] s1 (start N vs) H _ I hq ⟨fun z=>nomatch z⟩) (fun fl s' hs=>?_) fun e s' hs=>hs
  have fin:∀ {σ':St} {H':Hp} {v:V} {u:Value},Inv (gQ qt CX P w K mg base N qual scope f cdv A outer s H E) [] σ' H' s'->RelV v u->Q v H'->CE outer P w H s Q u s' :=
    fun {σ' H' v u} J rv q=>⟨v,H',J.os,J.bare,J.base,J.hok,rv,q⟩
  cases fl with
  | ret u =>
    obtain ⟨v,σ',H',J,rv,q⟩:=hs;exact fin J rv q
  | next =>
    obtain ⟨σ',H',J,q⟩:=hs;exact fin (v:=V.non) (u:=Value.none) J rfl q
  | brk =>
    obtain ⟨_,_,_,q⟩:=hs;exact False.elim q
  | cont =>
    obtain ⟨_,_,_,q⟩:=hs;exact False.elim q
end
section
section
variable {X:Cx} {x:Str} {p pos:Pos} {e:Expr} {es:List Expr} {t:TA} {id T:String} {r:List V->Hp->VK->Prop}
end
end
variable {kvs:List (List Key×V)}{xs:List (List Key×Addr×Value)}{h':Heap}
section
variable {o:Option V}
section
variable {κ:Type} [DecidableEq κ]
noncomputable def vI (kvs:List (κ×V)) (k:κ):Option V:=(kvs.find? fun kv=>decide (kv.1=k)).map (·.2)
noncomputable def putK (kvs:List (κ×V)) (k:κ) (v:V):List (κ×V) :=
  if (kvs.any fun kv=>decide (kv.1=k))=true then kvs.map (fun kv=>if kv.1=k then (kv.1,v) else kv) else kvs++[(k,v)]
noncomputable def uM (kvs:List (κ×V)) (k:κ):List (κ×V):=kvs.filter fun kv=>decide (kv.1≠k)
theorem zZ {p:κ×V} {r:List (κ×V)} {k:κ} (e:p.1=k):vI (p :: r) k=some p.2:=by simp [vI,uw,e]
theorem a00 {p:κ×V} {r:List (κ×V)} {k:κ} (e:¬ p.1=k):vI (p :: r) k=vI r k:=by simp [vI,uw,e]
theorem a4B (k:κ):∀ kvs:List (κ×V),(kvs.any fun kv=>decide (kv.1=k))=(vI kvs k).isSome
  | []=>rfl
  | p :: r=>by
    rw [rm];by_cases e:p.1=k
    . simp only [zZ e,decide_eq_true e,Bool.true_or,Option.isSome_some]
    . rw [a00 e,decide_eq_false e,Bool.false_or];exact a4B k r
theorem pP (kvs:List (κ×V)) (k:κ) (v:V):(putK kvs k v).length<=kvs.length+1:=by
  unfold putK;split
  . rw [au];omega
  . rw [iz,lq,zp];omega
theorem a1K.nF {u:Option Value} (r:a1K o u):o.isSome=u.isSome:=by
  cases o with
  | none=>cases u with
    | none=>rfl
    | some _=>exact (show False from r).elim
  | some _=>cases u with
    | none=>exact (show False from r).elim
    | some _=>rfl
theorem a1K.getD {u:Option Value} {d:V} {d':Value} (r:a1K o u) (rd:RelV d d'):RelV (o.getD d) (u.getD d'):=by
  cases o with
  | none=>cases u with
    | none=>exact rd
    | some _=>exact (show False from r).elim
  | some _=>cases u with
    | none=>exact (show False from r).elim
    | some _=>exact r
theorem KV.val {kvs:List (κ×V)} {vs:List (κ×Value)} (r:KV kvs vs) (k:κ):a1K (vI kvs k) (valueAt vs k):=by
  unfold KV at r
  induction r with
  | nil=>exact True.intro
  | @cons p q ps qs h t ih =>
    obtain ⟨h1,h2⟩:=h;by_cases e:p.1=k
    . have e':q.1=k:=h1.symm.trans e;have b:valueAt (q :: qs) k=some q.2:=by simp [valueAt,uw,e']
      rw [zZ e,b];exact h2
    . have e':¬ q.1=k:=fun z=>e (h1.trans z);have b:valueAt (q :: qs) k=valueAt qs k:=by simp [valueAt,uw,e']
      rw [a00 e,b];exact ih
theorem KV.any {kvs:List (κ×V)} {vs:List (κ×Value)} (r:KV kvs vs) (k:κ):(kvs.any fun kv=>decide (kv.1=k))=vs.any fun kv=>decide (kv.1=k):=by
  unfold KV at r
  induction r with
  | nil=>rfl
  | cons h t ih=>rw [rm,rm,ih,h.1]
theorem KV.repl {kvs:List (κ×V)} {vs:List (κ×Value)} (r:KV kvs vs) (k:κ) (ry:RelV y u) :
    KV (kvs.map fun kv=>if kv.1=k then (kv.1,y) else kv) (vs.map fun kv=>if kv.1=k then (kv.1,u) else kv):=by
  unfold KV at r ⊢
  induction r with
  | nil=>exact .nil
  | @cons p q ps qs h t ih =>
    rw [iu,iu];refine .cons ?_ ih;obtain ⟨h1,h2⟩:=h;by_cases e:p.1=k
    . rw [if_pos e,if_pos (h1.symm.trans e)];exact ⟨h1,ry⟩
    . rw [if_neg e,if_neg (fun z=>e (h1.trans z))];exact ⟨h1,h2⟩
theorem KV.put {kvs:List (κ×V)} {vs:List (κ×Value)} (r:KV kvs vs) (k:κ) (ry:RelV y u):KV (putK kvs k y) (stored vs k u):=by
  unfold putK stored;rw [r.any k];by_cases e:(vs.any fun kv=>decide (kv.1=k))=true
  . rw [if_pos e,if_pos e];exact r.repl k ry
  . rw [if_neg e,if_neg e];exact Paired.snoc r ⟨rfl,ry⟩
theorem KV.drop {kvs:List (κ×V)} {vs:List (κ×Value)} (r:KV kvs vs) (k:κ):KV (uM kvs k) (without vs k):=by
  unfold KV at r ⊢;unfold uM without
  induction r with
  | nil=>exact .nil
  | @cons p q ps qs h t ih =>
    obtain ⟨h1,h2⟩:=h;rw [pq,pq];by_cases e:p.1=k
    . have a:¬ decide (p.1≠k)=true:=by simp [e]
      have b:¬ decide (q.1≠k)=true:=by simp [h1.symm.trans e]
      rw [if_neg a,if_neg b];exact ih
    . have e':¬ q.1=k:=fun z=>e (h1.trans z);have a:decide (p.1≠k)=true:=by simp [e]
      have b:decide (q.1≠k)=true:=by simp [e']
      rw [if_pos a,if_pos b];exact .cons ⟨h1,h2⟩ ih
theorem KV.length {kvs:List (κ×V)} {vs:List (κ×Value)} (r:KV kvs vs):kvs.length=vs.length:=Paired.length r
theorem a4C (kvs:List (κ×V)) (k:κ):(uM kvs k).length<=kvs.length:=List.length_filter_le _ _
end
theorem a01 {w:World} {k:Key} (r:RelV (kV k) u):(aL P w).is k u=true:=by
  cases k with
  | inl i=>obtain ⟨t,e⟩:=(show ∃ t,u=Value.int i t from r);subst e;exact a2F P w i t
  | inr x=>obtain ⟨t,e⟩:=(show ∃ t,u=Value.str x t from r);subst e;exact aaX P w x t
theorem xJ {P:Program} {w:World}:∀ {ks:List Key} {us:List Value},Vals (ks.map kV) us->ItemsAre (aL P w) ks us
  | [],_,r=>by rw [zq] at r;cases r;exact .nil
  | k :: ks,_,r=>by
    rw [iu] at r;cases r with
    | cons h t=>exact .cons (a01 h) (xJ t)
noncomputable abbrev KT (H:Hp):List (List Key×V)->List (List Key×Addr×Value)->Prop:=Paired fun p q=>p.1=q.1/\H q.2.1=some (.tup (p.1.map kV))/\RelV p.2 q.2.2
theorem KT.val (r:KT H kvs xs) (k:List Key):a1K (vI kvs k) ((atKey xs k).map (·.2)):=by
  induction r with
  | nil=>exact True.intro
  | @cons p q ps qs h t ih =>
    obtain ⟨h1,_,h2⟩:=h;by_cases e:p.1=k
    . have e':q.1=k:=h1.symm.trans e;have b:atKey (q :: qs) k=some q.2:=by simp [atKey,uw,e']
      rw [zZ e,b];exact h2
    . have e':¬ q.1=k:=fun z=>e (h1.trans z);have b:atKey (q :: qs) k=atKey qs k:=by simp [atKey,uw,e']
      rw [a00 e,b];exact ih
theorem KT.repl (r:KT H kvs xs) (k:List Key) (ry:RelV y u) :
    KT H (kvs.map fun kv=>if kv.1=k then (kv.1,y) else kv) (xs.map (putAt k u)):=by
  induction r with
  | nil=>exact .nil
  | @cons p q ps qs h t ih =>
    rw [iu,iu];refine .cons ?_ ih;obtain ⟨h1,h2,h3⟩:=h;unfold putAt;by_cases e:p.1=k
    . rw [if_pos e,if_pos (h1.symm.trans e)];exact ⟨h1,h2,ry⟩
    . rw [if_neg e,if_neg (fun z=>e (h1.trans z))];exact ⟨h1,h2,h3⟩
theorem KT.put (r:KT H kvs xs) (k:List Key) (hb:H b=some (.tup (k.map kV))) (ry:RelV y u) :
    KT H (putK kvs k y) (storedH xs k b u):=by
  have e:(kvs.any fun kv=>decide (kv.1=k))=(atKey xs k).isSome:=by
    rw [a4B,(r.val k).nF,Option.isSome_map]
  unfold putK storedH;rw [e];by_cases q:(atKey xs k).isSome=true
  . rw [if_pos q,if_pos q];exact r.repl k ry
  . rw [if_neg q,if_neg q];exact Paired.snoc r ⟨rfl,hb,ry⟩
theorem KT.keeps (r:KT H kvs xs) (ht:∀ b ys,H b=some (.tup ys)->H' b=some (.tup ys)):KT H' kvs xs :=
  Paired.auK r fun _ _ z=>⟨z.1,ht _ _ z.2.1,z.2.2⟩
section
variable {P:Program} {w:World} {H:Hp} {h:Heap} {a:Addr}
theorem asQ {u:HO} (ok:qL P w H h) (e:Rd H a u):dG P w H h a u:=e.ok ok
theorem a4D {kvs:List (Key×V)} (ok:qL P w H h) (e:Rd H a (.dK kvs)):kvs.length<=sizeLine/\(a == sysModules)=false/\∃ vs,KV kvs vs/\h.DictOf (aL P w) a vs :=
  show dG P w H h a (.dK kvs) from asQ ok e
theorem afG {kvs:List (Key×V)} (ok:qL P w H h) (e:H a=some (.dK kvs)):kvs.length<=sizeLine/\(a == sysModules)=false/\∃ vs,KV kvs vs/\h.DictOf (aL P w) a vs:=a4D ok (.inl e)
theorem vJ {ks:List Key} (ok:qL P w H h) (e:H a=some (.tup (ks.map kV))):(tupleKind (aL P w)).is h ks a:=by
  obtain ⟨_,its,r,o,h1,h2,n,h3⟩:=(show dG P w H h a (.tup (ks.map kV)) from ok a _ e);exact ⟨o,its.toArray,n,h1,h2,h3,by simpa using xJ r⟩
theorem a4E (ok:qL P w H h) (e:Rd H a (.dT kvs)):kvs.length<=sizeLine/\(a == sysModules)=false /\
    ∃ xs,KT H kvs xs/\h.DictOfH (tupleKind (aL P w)) a xs:=by
  obtain ⟨z,y,xs,r,o,es,ep,h1,h2,h3,h4,h5⟩:=(show dG P w H h a (.dT kvs) from asQ ok e);refine ⟨z,y,xs,r,o,es,ep,h1,h2,h3,h4,fun x hx=>?_,h5⟩
  have all:∀ {l:List (List Key×V)} {m:List (List Key×Addr×Value)},KT H l m->∀ x∈m,(tupleKind (aL P w)).is h x.1 x.2.1:=by
    intro l m q
    induction q with
    | nil=>intro x hx;exact nomatch hx
    | @cons p q ps qs hq t ih =>
      intro x hx;rcases jq.mp hx with e | hx
      . subst e;exact vJ ok (by rw [← hq.1];exact hq.2.1)
      . exact ih x hx
  exact all r x hx
theorem afH (ok:qL P w H h) (e:H a=some (.dT kvs)):kvs.length<=sizeLine/\(a == sysModules)=false /\
    ∃ xs,KT H kvs xs/\h.DictOfH (tupleKind (aL P w)) a xs:=a4E ok (.inl e)
end
noncomputable def z9 (H:Hp) (a:Addr) (y:V) (r:Option V):Prop :=
  (∃ kvs k,Rd H a (.dK kvs)/\y=kV k/\r=vI kvs k)∨∃ kvs k b,Rd H a (.dT kvs)/\y = .ref b/\H b=some (.tup (k.map kV))/\r=vI kvs k
noncomputable def ahY (H:Hp) (a:Addr) (y v:V) (H':Hp):Prop :=
  (∃ kvs k,H a=some (.dK kvs)/\y=kV k/\kvs.length < sizeLine/\H'=upd H a (.dK (putK kvs k v))) ∨
  ∃ kvs k b,H a=some (.dT kvs)/\y = .ref b/\H b=some (.tup (k.map kV))/\kvs.length < sizeLine/\H'=upd H a (.dT (putK kvs k v))
theorem z9.k {H:Hp} {a:Addr} {kvs:List (Key×V)} {k:Key} (e:H a=some (.dK kvs)):z9 H a (kV k) (vI kvs k) := .inl ⟨kvs,k,.inl e,rfl,rfl⟩
theorem z9.t {k:List Key} (e:H a=some (.dT kvs)) (eb:H b=some (.tup (k.map kV))):z9 H a (.ref b) (vI kvs k) := .inr ⟨kvs,k,b,.inl e,rfl,eb,rfl⟩
theorem ahY.k {H:Hp} {a:Addr} {kvs:List (Key×V)} {k:Key} {v:V} (e:H a=some (.dK kvs)) (hl:kvs.length < sizeLine):ahY H a (kV k) v (upd H a (.dK (putK kvs k v))) := .inl ⟨kvs,k,e,rfl,hl,rfl⟩
theorem ahY.t {k:List Key} (e:H a=some (.dT kvs)) (eb:H b=some (.tup (k.map kV))) (hl:kvs.length < sizeLine) :
    ahY H a (.ref b) v (upd H a (.dT (putK kvs k v))) := .inr ⟨kvs,k,b,e,rfl,eb,hl,rfl⟩
section
variable {X:Cx} {pins:List (Addr×Obj)} {σ:St} {H:Hp} {s:Shared} {a:Addr} {y v:V} {u r:Value} {o:Option V} {A:Around} {E:Value->Shared->Prop}
theorem Inv.big (I:Inv X pins σ H s):sysModules < s.heap.objs.size:=by
  have h:mainGlobals < s.heap.objs.size:=(I.mod.glob.keeps I.bk).lt;exact Nat.lt_trans (by decide) h
theorem ahZ (hu:A.units+1 < cLine) (I:Inv X pins σ H s) (g:z9 H a y (some v)) (ry:RelV y u) (h:∀ w' s',Inv X pins σ H s'->RelV v w'->Q w' s') :
    wpAny (model X.prog X.w) A (getItem (.ref a) u) Q E s:=by
  rcases g with ⟨kvs,k,e,ey,l⟩ | ⟨kvs,k,b,e,ey,eb,l⟩
  . subst ey;obtain ⟨z,hd,vs,rel,dd⟩:=a4D I.hok e;obtain ⟨w',hw,rw'⟩:=a1K.some_of (v:=v) (o:=valueAt vs k) (by rw [l];exact rel.val k);exact wpAny_getItem_of (a01 ry) dd.mapOf hw (h w' _ (I.tok _) rw')
  . subst ey;cases (show u=Value.ref b from ry);obtain ⟨z,hd,xs,rel,dd⟩:=a4E I.hok e;obtain ⟨w',hw,rw'⟩:=a1K.some_of (v:=v) (o:=(atKey xs k).map (·.2)) (by rw [l];exact rel.val k);obtain ⟨p,hp,hp2⟩:=lg.mp hw;refine wpAny_getItem_heap (tupleKind_room_in1 hu) (vJ I.hok eb) dd hp ?_;rw [hp2];exact h w' _ (I.tok _) rw'
theorem aGF (hu:A.units+1 < cLine) (I:Inv X pins σ H s) (g:z9 H a y o) (ry:RelV y u) (h:∀ s',Inv X pins σ H s'->Q (.bool o.isSome) s') :
    wpAny (model X.prog X.w) A (compareOp .In u (.ref a)) Q E s:=by
  rcases g with ⟨kvs,k,e,ey,l⟩ | ⟨kvs,k,b,e,ey,eb,l⟩
  . subst ey;obtain ⟨z,hd,vs,rel,dd⟩:=a4D I.hok e;refine wpAny_in_of (a01 ry) hd dd.mapOf ?_;rw [← (rel.val k).nF,← l];exact h _ (I.tok _)
  . subst ey;cases (show u=Value.ref b from ry);obtain ⟨z,hd,xs,rel,dd⟩:=a4E I.hok e;refine wpAny_in_heap (tupleKind_room_in1 hu) (vJ I.hok eb) hd dd ?_;have q:=(rel.val k).nF;rw [Option.isSome_map] at q;rw [← q,← l];exact h _ (I.tok _)
theorem aoO (hu:A.units+1 < cLine) (I:Inv X pins σ H s) (g:z9 H a y o) (ry:RelV y u) (h:∀ s',Inv X pins σ H s'->Q (.bool (!o.isSome)) s') :
    wpAny (model X.prog X.w) A (compareOp .NotIn u (.ref a)) Q E s:=by
  rcases g with ⟨kvs,k,e,ey,l⟩ | ⟨kvs,k,b,e,ey,eb,l⟩
  . subst ey;obtain ⟨z,hd,vs,rel,dd⟩:=a4D I.hok e;refine wpAny_notIn_of (a01 ry) hd dd.mapOf ?_;rw [← (rel.val k).nF,← l];exact h _ (I.tok _)
  . subst ey;cases (show u=Value.ref b from ry);obtain ⟨z,hd,xs,rel,dd⟩:=a4E I.hok e;refine wpAny_notIn_heap (tupleKind_room_in1 hu) (vJ I.hok eb) hd dd ?_;have q:=(rel.val k).nF;rw [Option.isSome_map] at q;rw [← q,← l];exact h _ (I.tok _)
theorem pQ {ob:HO} (I:Inv X pins σ H s) (mu:Mut (H a)) (hs:iy a s.heap h') (he:∃ q,h'.get? a=some q) (new:dG X.prog X.w (upd H a ob) h' a ob) :
    Inv X pins σ (upd H a ob) { s with heap:=h',toks:=t' } :=
  I.write (x:=a) (e:=a) mu (.inl rfl) (fun b q hb z=>(hs.2 b hb).trans z) he new
theorem a95 {w:World} {kvs:List (Key×V)} {vs:List (Key×Value)} (z:kvs.length<=sizeLine) (hd:(a == sysModules)=false) (rel:KV kvs vs) (dd:h'.DictOf (aL P w) a vs) :
    dG P w H' h' a (.dK kvs):=⟨z,hd,vs,rel,dd⟩
end
section
variable {X:Cx} {pins:List (Addr×Obj)} {σ:St} {H:Hp} {s:Shared} {a:Addr} {kvs:List (Key×V)} {k:Key} {u:Value} {A:Around} {E:Value->Shared->Prop}
theorem azY {Q:Unit->Shared->Prop} (I:Inv X pins σ H s) (e:H a=some (.dK kvs)) (ry:RelV (kV k) u) (l:(vI kvs k).isSome=true) (h:∀ s',Inv X pins σ (upd H a (.dK (uM kvs k))) s'->Q () s') :
    wpAny (model X.prog X.w) A (delItem (.ref a) u) Q E s:=by
  obtain ⟨z,hd,vs,rel,dd⟩:=afG I.hok e
  refine wpAny_delItem_slot dd.typeIs (by decide) PySem.F.slot_dict_delitem
    (call_meetsIn PySem.F.slot_dict_delitem dd.typeIs PySem.F.entry_dict_delitem (PySem.F.args_dict_delitem_2 _ _) (meets_dict_delitem_pairs (aL X.prog X.w) a (a01 ry)) ⟨vs,dd,by rw [← rel.length];exact z,by rw [← (rel.val k).nF];exact l,fun h' dd' hs=>h _ ?_⟩)
  have he:∃ q,h'.get? a=some q:=let ⟨q,_,_,hq,_⟩:=dd';⟨q,hq⟩
  exact pQ I (by rw [e];exact True.intro) hs he (a95 (jd (a4C kvs k) z) hd (rel.drop k) dd')
theorem aB4 {more:List Value} (I:Inv X pins σ H s) (e:H a=some (.dK kvs)) (ry:RelV (kV k) u) (l:vI kvs k=some v) (hm:more=[]∨∃ x,more=[x])
    (h:∀ w' s',Inv X pins σ (upd H a (.dK (uM kvs k))) s'->RelV v w'->Q w' s'):wpAny (model X.prog X.w) A (call (.builtin "dict.pop") (.ref a :: u :: more)) Q E s:=by
  obtain ⟨z,hd,vs,rel,dd⟩:=afG I.hok e;obtain ⟨w',hw,rw'⟩:=a1K.some_of (v:=v) (o:=valueAt vs k) (by rw [← l];exact rel.val k)
  have hp:(keyPart u).isSome=true:=by
    cases k with
    | inl i=>obtain ⟨t,q⟩:=(show ∃ t,u=Value.int i t from ry);subst q;rfl
    | inr x=>obtain ⟨t,q⟩:=(show ∃ t,u=Value.str x t from ry);subst q;rfl
  have ha:argsOk "dict.pop" ⟨.ref a :: u :: more,[]⟩:=by
    rcases hm with q | ⟨x,q⟩
    . subst q;exact PySem.F.args_dict_pop_2 _ _
    . subst q;exact PySem.F.args_dict_pop_3 _ _ _
  refine call_meetsIn PySem.F.slot_dict_pop dd.typeIs PySem.F.entry_dict_pop ha (meets_dict_pop_there (aL X.prog X.w) a (a01 ry) more hm hp)
    ⟨vs,w',dd,by rw [← rel.length];exact z,hw,fun h' dd' hs=>h w' _ ?_ rw'⟩
  have he:∃ q,h'.get? a=some q:=let ⟨q,_,_,hq,_⟩:=dd';⟨q,hq⟩
  exact pQ I (by rw [e];exact True.intro) hs he (a95 (jd (a4C kvs k) z) hd (rel.drop k) dd')
end
noncomputable def avH (i:Expr):Prop:=∀ ov iv,subscripted i false ov iv=operate [ov,iv] (getItem ov iv)
theorem aoP {prog:Program} {w:World} {env:Env} {value slice:Expr} {T id:String}
    (hl:typeLookup (.type T) "__getitem__" = pure (some (.builtin id))) (hs:avH slice)
    (h:wpAny (model prog w) A (eval value env) (fun o s₁=>wpAny (model prog w) A (eval slice env) (fun i s₂=>s₂.TypeIs o T/\wpAny (model prog w) A (getItem o i) Q E s₂) E s₁) E s) :
    wpAny (model prog w) A (eval (.Subscript value slice pos) env) Q E s:=by
  refine Subscript_ (wpAny_mono h (fun o s₁ h₁=>wpAny_mono h₁ (fun i s₂ h₂=>?_) fun _ _ x=>x) fun _ _ x=>x);obtain ⟨hT,h₂⟩:=h₂;unfold subscriptTail;refine aj ?_;rw [getitemInPython_of_ne hT.not_modules];refine aj (wpAny_specialOf hT hl ?_)
  have fin:wpAny (model prog w) A (subscripted slice false o i) (fun r s₃=>wpAny (model prog w) A (letTemporaryGo value o r >>= fun _=>pure r) Q E s₃) E s₂:=by
    rw [hs o i];exact wpAny_operating (wpAny_mono h₂ (fun r s₃ h₃=>aj (wpAny_letTemporaryGo (aq h₃))) fun _ _ x=>x)
  first
    | exact aq (aj fin)
    | exact aj (aq (aj fin))
    | exact aj fin
theorem ab0 {σ:St} (I:Inv X pins σ H s) (g:z9 H a y o):s.TypeIs (.ref a) "dict" := by
  rcases g with ⟨kvs,k,e,_,_⟩ | ⟨kvs,k,b,e,_,_,_⟩
  . obtain ⟨_,_,vs,_,dd⟩:=a4D I.hok e;exact dd.typeIs
  . obtain ⟨_,_,xs,_,dd⟩:=a4E I.hok e;exact dd.typeIs
noncomputable def aB5 (td ty:TE):TE:=fun σ H Q=>td σ H fun x H1=>ty σ H1 fun y H2=>∃ a v,x = .ref a/\z9 H2 a y (some v)/\Q v H2
section
variable {X:Cx} {o i e value:Expr} {pos pos' tpos:Pos} {td ty tv:TE}
theorem aoQ (hu:X.A.units+1 < cLine) (ho:PE X o td) (hi:PE X i ty) (hs:avH i):PE X (.Subscript o i pos) (aB5 td ty):=by
  intro pins s σ H Q I h _tk;refine aoP PySem.F.slot_dict_getitem.lookup hs (cR (ho pins s σ H _ I h) fun u s1 ⟨x,H1,I1,rx,q1⟩=>cR (hi pins s1 σ H1 _ I1 q1) fun iv s2 ⟨y,H2,I2,ry,a,v,ex,g,q2⟩=>?_);subst ex;obtain rfl:u=Value.ref a:=rx;exact ⟨ab0 I2 g,ahZ hu I2 g ry fun w' s3 I3 rw'=>⟨v,H2,I3,rw',q2⟩⟩
end
theorem ab1 {w:World} (h:Heap) (hb:sysModules < h.objs.size):dG P w H (h.push { cls := .type "dict",data := .dict #[] }) h.objs.size (.dK []) :=
  ⟨oh _,beq_eq_false_iff_ne.mpr (Ne.symm (dw hb)),[],.nil,Heap.DictOf.new h⟩
theorem ajV {w:World} (h:Heap) (hb:sysModules < h.objs.size):dG P w H (h.push { cls := .type "dict",data := .dict #[] }) h.objs.size (.dT []) :=
  ⟨oh _,beq_eq_false_iff_ne.mpr (Ne.symm (dw hb)),[],.nil,_,#[],0,dj _ rfl,⟨rfl,rfl,rfl⟩,rfl,rfl,a0a⟩
noncomputable def avI:TE:=fun _ H Q=>∀ p,H p=none->Q (.ref p) (upd H p (.dK []))
noncomputable def avJ:TE:=fun _ H Q=>∀ p,H p=none->Q (.ref p) (upd H p (.dT []))
section
variable {X:Cx} {pos:Pos}
theorem ajW:PE X (.Dict [] [] pos) avI:=fun pins s σ H Q I h =>
  wpAny_Dict_empty ⟨.ref s.heap.objs.size,_,I.laid (a:=s.heap.objs.size) (o := .dK []) (t':=s.toks) (fun _ _ q=>ao _ q) (bw _) (ab1 s.heap I.big),rfl,h _ (I.hok.fresh (bw _))⟩
theorem ajX:PE X (.Dict [] [] pos) avJ:=fun pins s σ H Q I h =>
  wpAny_Dict_empty ⟨.ref s.heap.objs.size,_,I.laid (a:=s.heap.objs.size) (o := .dT []) (t':=s.toks) (fun _ _ q=>ao _ q) (bw _) (ajV s.heap I.big),rfl,h _ (I.hok.fresh (bw _))⟩
end
structure M2 (X:Cx) (o:Expr) (m:Str) (apos:Pos) (e f:Expr) (cpos:Pos):Prop where
  base:attributeBase o m X.env (eval o X.env)=eval o X.env
  few:((backTo cpos (starEach [e,f] X.env)).all (fun x=>!x.1)&&(backToKw cpos (keywordEach [] X.env)).all (fun x=>x.1.isSome)
    && decide (([e,f]:List Expr).length+([]:List Keyword).length+(if ([]:List Keyword).isEmpty then 0 else 1) < 30))=true
  line:(apos.endLine == cpos.line)=true
  trees:backTo cpos (starEach [e,f] X.env)=[(false,eval e X.env),(false,eval f X.env)]
noncomputable def IsD (H:Hp) (a:Addr):Prop:=(∃ kvs,Rd H a (.dK kvs))∨∃ kvs,Rd H a (.dT kvs)
theorem ajY {σ:St} (I:Inv X pins σ H s) (d:IsD H a) :
    s.TypeIs (.ref a) "dict" /\ (∀ b,Value.ref a = .ref b->∃ ob,s.heap.get? b=some ob/\ob.dict=none)/\(a == sysModules)=false:=by
  rcases d with ⟨kvs,e⟩ | ⟨kvs,e⟩
  . obtain ⟨_,hd,vs,_,dd⟩:=a4D I.hok e;refine ⟨dd.typeIs,fun b q=>?_,hd⟩;cases q;obtain ⟨ob,_,_,h1,h2,_⟩:=dd;exact ⟨ob,h1,h2.2.1⟩
  . obtain ⟨_,hd,xs,_,dd⟩:=a4E I.hok e;refine ⟨dd.typeIs,fun b q=>?_,hd⟩;cases q;obtain ⟨ob,_,_,h1,h2,_⟩:=dd;exact ⟨ob,h1,h2.2.1⟩
section
variable {X:Cx} {pins:List (Addr×Obj)} {σ:St} {H:Hp} {s:Shared} {a:Addr} {y d:V} {u r:Value} {o:Option V} {A:Around} {E:Value->Shared->Prop}
theorem avK (hu:A.units+1 < cLine) (I:Inv X pins σ H s) (g:z9 H a y o) (ry:RelV y u) (rd:RelV d r) (h:∀ w' s',Inv X pins σ H s'->RelV (o.getD d) w'->Q w' s') :
    wpAny (model X.prog X.w) A (call (.builtin "dict.get") [.ref a,u,r]) Q E s:=by
  rcases g with ⟨kvs,k,e,ey,l⟩ | ⟨kvs,k,b,e,ey,eb,l⟩
  . subst ey;obtain ⟨z,hd,vs,rel,dd⟩:=a4D I.hok e;refine call_meetsIn PySem.F.slot_dict_get dd.typeIs PySem.F.entry_dict_get (PySem.F.args_dict_get_3 _ _ _) (meets_dict_get_default (aL X.prog X.w) a (a01 ry) hd r) ⟨_,dd.mapOf,h _ _ (I.tok _) ?_⟩;rw [l];exact (rel.val k).getD rd
  . subst ey;cases (show u=Value.ref b from ry);obtain ⟨z,hd,xs,rel,dd⟩:=a4E I.hok e;refine call_meetsIn PySem.F.slot_dict_get dd.typeIs PySem.F.entry_dict_get (PySem.F.args_dict_get_3 _ _ _) (meetsH_dict_get_default (tupleKind (aL X.prog X.w)) a b hd r) ⟨tupleKind_room_in1 hu,k,xs,vJ I.hok eb,dd,h _ _ (I.tok _) ?_⟩;rw [l];exact (rel.val k).getD rd
end
noncomputable def avL (td ty tx:TE):TE:=fun σ H Q=>td σ H fun x H1=>∃ a,x = .ref a/\IsD H1 a/\ty σ H1 fun y H2=>tx σ H2 fun z H3=>∃ o,z9 H3 a y o/\Q (o.getD z) H3
section
variable {X:Cx} {o e f:Expr} {apos cpos:Pos} {td ty tx:TE}
theorem ajZ (hu:X.A.units+1 < cLine) (ho:PE X o td) (he:PE X e ty) (hf:PE X f tx) (m:M2 X o "get" apos e f cpos):PE X (.Call (.Attribute o "get" apos) [e,f] [] cpos) (avL td ty tx):=by
  intro pins s σ H Q I h _tk;refine wpAny_Call_method m.base m.few m.line PySem.F.plainAttrs_dict PySem.F.slot_dict_get PySem.F.type_dict_get (cR (ho pins s σ H _ I h) fun u s1 ⟨x,H1,I1,rx,a,ex,d,q1⟩=>?_);subst ex;obtain rfl:u=Value.ref a:=rx;obtain ⟨t1,t2,_⟩:=ajY I1 d;refine ⟨t1,t2,?_⟩;rw [m.trees]
  refine Calls.callWith_builtin rfl (Calls.evalArgs_plain (Calls.spliced_cons (cR (he pins s1 σ H1 _ I1 q1) fun iv s2 ⟨y,H2,I2,ry,q2⟩ =>
    Calls.spliced_cons (cR (hf pins s2 σ H2 _ I2 q2) fun fv s3 ⟨z,H3,I3,rz,ov,g,q3⟩=>Calls.spliced_nil ?_))))
  exact avK hu I3 g ry rz fun w' s4 I4 rw'=>⟨_,H3,I4,rw',q3⟩
end
section
variable {X:Cx} {pins:List (Addr×Obj)} {σ:St} {H:Hp} {s:Shared} {a:Addr} {kvs:List (Key×V)} {A:Around} {E:Value->Shared->Prop}
end
section
variable {X:Cx} {pins:List (Addr×Obj)} {σ:St} {H:Hp} {s:Shared} {a:Addr} {y:V} {u:Value} {A:Around} {E:Value->Shared->Prop}
end
end
end L2
namespace HT
open PySem PyProof.Rows
noncomputable def lexLt:List Int->List Int->Bool
  | [],[]=>false
  | [],_ :: _=>true
  | _ :: _,[]=>false
  | x :: xs,y :: ys=>if x=y then lexLt xs ys else decide (x < y)
theorem dZ (x y:Int) (xs ys:List Int):lexLt (x :: xs) (y :: ys)=if x=y then lexLt xs ys else decide (x < y):=rfl
theorem a6Y:lexLt [] []=false:=rfl
theorem a4F (y:Int) (ys:List Int):lexLt [] (y :: ys)=true:=rfl
theorem a4G (x:Int) (xs:List Int):lexLt (x :: xs) []=false:=rfl
theorem ak0 (A:Around) (s:Shared) (a:Int) (t:Tok) (c:Int) (u:Tok):∃ e,SeqAt.EqAt A s (.int a t) (.int c u) e/\(e=true↔a=c) :=
  ⟨(a == c),SeqAt.EqAt.int_int a t c u,by simp⟩
theorem ab2 (A:Around) (s:Shared) (a:Int) (t:Tok) (c:Int) (u:Tok) (prog:Program) (w:World) (E:Value->Shared->Prop) (Q:Value->Shared->Prop) (h:Q (.bool (decide (a < c))) s) :
    wpAny (model prog w) A (richCompare .Lt (.int a t) (.int c u)) Q E s :=
  (PyProof.Rows.lt_int h:wpAny (model prog w) A (compareOp .Lt (.int a t) (.int c u)) Q E s)
section
open PySem.SeqAt
open PySem.AutoSeq1 (wpAny_loadPart')
open PySem.MeetsSeq PySem.MeetsSeq2 PySem.MeetsSeq3
theorem a6Z (l b:Addr) (items items2:Array Value) (n n2:Nat) (dd dd2:Option Addr) (sl sl2:Array (Option Value)) (ns ms:List Int) (hi:IntsAre items.toList ns) (hj:IntsAre items2.toList ms) :
    Meets (Builtin.«tuple.__lt__» ⟨[.ref l,.ref b],[]⟩)
      (fun _ R s=>s.heap.get? l=some { cls := .type "tuple",dict:=dd,data := .seq items n,slots:=sl }/\s.heap.get? b=some { cls := .type "tuple",dict:=dd2,data := .seq items2 n2,slots:=sl2 } /\
        R (.ok (.ret (.bool (lexLt ns ms)))) s) :=
  .of_wp fun prog w A R s h=>by
    obtain ⟨hp,g,d,tk,os⟩:=s;obtain ⟨hl,hb,h⟩:=h;have f2:=AutoSeq1.sub_tuple_tuple;have z1:items.size=ns.length:=by rw [← hi.length];simp
    have z2:items2.size=ms.length:=by rw [← hj.length];simp
    wp_walk using wpAny_loadPart' hl,wpAny_loadPart' hb,wpAny_forIn_list _ (fun rest b s'=>b.1=none/\s'=⟨hp,g,d,tk,os⟩/\∃ (vs ws:List Value) (ns' ms':List Int),rest=vs.zip ws /\
      IntsAre vs ns'/\IntsAre ws ms'/\ns'.length+items2.size=ms'.length+items.size/\R (.ok (.ret (.bool (lexLt ns' ms')))) ⟨hp,g,d,tk,os⟩) _
    case turn =>
      rintro ⟨y,x⟩ rest b s' ⟨hb',rfl,vs,ws,ns',ms',hz,hvi,hwi,hlen,hR⟩;cases hvi with
      | nil=>rw [List.zip_nil_left] at hz;cases hz
      | cons a t aGI =>
        cases hwi with
        | nil=>rw [List.zip_nil_right] at hz;cases hz
        | cons c u aGJ =>
          rw [List.zip_cons_cons] at hz;injection hz with hyx hrest;injection hyx with hy hx;subst hy hx;rw [dZ] at hR;simp only [lq] at hlen;obtain ⟨e,he,hiff⟩:=ak0 A.in1 ⟨hp,g,d,tk,os⟩ a t c u;refine aj (he prog w _ _ ?_);cases e with
          | true =>
            rw [if_pos (hiff.mp rfl)] at hR
            wp_walk
            exact ⟨rfl,rfl,_,_,_,_,hrest,aGI,aGJ,by omega,hR⟩
          | false =>
            rw [if_neg (fun q=>absurd (hiff.mpr q) jw)] at hR;have hri:=ab2 A.in1 ⟨hp,g,d,tk,os⟩ a t c u prog w
            wp_walk using hri
            exact ⟨_,rfl,by simpa using hR⟩
    case fin =>
      rintro ⟨b1,b2⟩ s' ⟨hb',rfl,vs,ws,ns',ms',hz,hvi,hwi,hlen,hR⟩;simp only at hb';subst hb'
      have hv:lexLt ns' ms'=decide (items.size < items2.size):=by
        cases hvi with
        | nil =>
          cases hwi with
          | nil =>
            simp only [zp] at hlen;rw [a6Y];exact (decide_eq_false (by omega)).symm
          | cons c u hw =>
            simp only [zp,lq] at hlen;rw [a4F];exact (decide_eq_true (by omega)).symm
        | cons a t hv =>
          cases hwi with
          | nil =>
            simp only [zp,lq] at hlen;rw [a4G];exact (decide_eq_false (by omega)).symm
          | cons c u hw =>
            rw [List.zip_cons_cons] at hz;cases hz
      rw [hv] at hR
      wp_walk
      exact ⟨_,rfl,by simpa [Builtin.Tuple.tupleCompareSizes] using hR⟩
    case h =>
      exact ⟨rfl,rfl,items.toList,items2.toList,ns,ms,rfl,hi,hj,by omega,h⟩
end
variable {Q:Value->Shared->Prop}{sl:Addr}
section
variable {prog:Program} {w:World} {A:Around} {E:Value->Shared->Prop} {s:Shared}
theorem a4H {l b:Addr} {items items2:Array Value} {ns ms:List Int} (hl:IsTup s.heap l items) (hb:IsTup s.heap b items2) (hi:IntsAre items.toList ns) (hj:IntsAre items2.toList ms)
    (hu:A.units < cLine) (h:Q (.bool (lexLt ns ms)) s):wpAny (model prog w) A (compareOp .Lt (.ref l) (.ref b)) Q E s:=by
  obtain ⟨⟨cls,dd,data,sl⟩,ho,hc,n,hd⟩:=id hl;obtain ⟨⟨cls2,dd2,data2,sl2⟩,ho2,hc2,n2,hd2⟩:=id hb;simp only at hc hd hc2 hd2;subst hc hd hc2 hd2
  exact richCompare_meets_room (op := .Lt) ⟨_,ho,rfl⟩ ⟨_,ho2,rfl⟩ PySem.F.slot_tuple_lt PySem.F.entry_tuple_lt (PySem.F.args_tuple_lt_2 _ _) (a6Z l b items items2 n n2 dd dd2 sl sl2 ns ms hi hj)
    ⟨ho,ho2,show Value.bool (lexLt ns ms)≠Value.notImplemented/\Q (.bool (lexLt ns ms)) s from ⟨(fun x=>nomatch x),h⟩⟩ hu
theorem aoR {t b:Addr} {vs ws:List Value} (ht:IsTup s.heap t vs.toArray) (hb:IsTup s.heap b ws.toArray) (hv:vs≠[])
    (h1:ws=[]->Q (.ref t) s) (h2:ws≠[]->Q (.ref s.heap.objs.size) { s with heap:=s.heap.push { cls := .type "tuple",data := .seq (vs++ws).toArray } })
    (hsz:vs.length+ws.length<=sizeLine):wpAny (model prog w) A (binaryOp .Add (.ref t) (.ref b)) Q E s:=by
  obtain ⟨⟨cls,dd,data,sl⟩,ho,hc,n,hd⟩:=id ht;obtain ⟨⟨cls2,dd2,data2,sl2⟩,ho2,hc2,n2,hd2⟩:=id hb;simp only at hc hd hc2 hd2;subst hc hd hc2 hd2;have e:vs.toArray++ws.toArray=(vs++ws).toArray:=by simp
  by_cases hw:ws=[]
  . exact concat_meets ⟨_,ho,rfl⟩ ⟨_,ho2,rfl⟩ noFill_tuple_add seq_tuple_add PySem.F.slot_tuple_add PySem.F.entry_tuple_add (PySem.F.args_tuple_add_2 _ _)
      (tuple_addW1 t b vs.toArray ws.toArray n n2 dd dd2 sl sl2 (by simpa using hv) (by simp [hw])) ⟨ho,ho2,h1 hw⟩
  . refine concat_meets ⟨_,ho,rfl⟩ ⟨_,ho2,rfl⟩ noFill_tuple_add seq_tuple_add PySem.F.slot_tuple_add PySem.F.entry_tuple_add (PySem.F.args_tuple_add_2 _ _)
      (tuple_addW2 t b vs.toArray ws.toArray n n2 dd dd2 sl sl2 (by simpa using hv) (by simpa using hw) (by rw [bh,bh];exact hsz)) ⟨ho,ho2,?_⟩
    rw [e];exact h2 hw
noncomputable def jF (n d:Nat):Option Int->Nat
  | none=>d
  | some v=>if v < 0 then (v+(n:Int)).toNat else min v.toNat n
theorem avM (n d:Nat) (hd:d<=n) (o:Option Int):jF n d o<=n:=by
  cases o with
  | none=>exact hd
  | some v =>
    show (if v < 0 then (v+(n:Int)).toNat else min v.toNat n)<=n;by_cases hv:v < 0
    . rw [if_pos hv];omega
    . rw [if_neg hv];exact Nat.min_le_right _ _
theorem afI (v:Int) (n d:Nat):(if v < 0 then max (v+(n:Int)) 0 else min v (n:Int))=((jF n d (some v):Nat):Int):=by
  show (if v < 0 then max (v+(n:Int)) 0 else min v (n:Int))=(((if v < 0 then (v+(n:Int)).toNat else min v.toNat n):Nat):Int);by_cases hv:v < 0
  . simp only [if_pos hv];omega
  . simp only [if_neg hv];omega
theorem adK (lo hi:Option Int) (n:Nat):Builtin.Slice.sliceAdjust lo hi 1 (n:Int)=(((jF n 0 lo:Nat):Int),((jF n n hi:Nat):Int)):=by
  have h1:¬ ((1:Int) < 0):=by omega
  unfold Builtin.Slice.sliceAdjust;simp only [h1,if_false];refine Prod.ext ?_ ?_
  . cases lo with
    | none=>rfl
    | some v=>exact afI v n 0
  . cases hi with
    | none=>rfl
    | some v=>exact afI v n n
theorem adL (i j:Nat):Builtin.Slice.slicePlaces (i:Int) (j:Int) 1=j - i:=by
  unfold Builtin.Slice.slicePlaces;have h1:(1:Int) > 0:=by omega
  simp only [h1,if_true,Int.ediv_one];split <;> omega
theorem a4I {v:Value} {o:Option Int} {Q:Option Int->Shared->Prop} (p:IsPart v o) (h:Q o s):wpAny (model prog w) A (Builtin.Slice.slicePartIndex v) Q E s:=by
  cases p with
  | none=>exact slicePart_none h
  | int i t=>exact slicePart_int h
theorem a1P {vl vu:Value} {lo hi:Option Int} {n:Nat} {Q:Int×Int×Nat->Shared->Prop} (hs:s.heap.IsSliceOf sl vl vu .none) (pl:IsPart vl lo) (pu:IsPart vu hi)
    (h:Q (((jF n 0 lo:Nat):Int),1,jF n n hi - jF n 0 lo) s):wpAny (model prog w) A (Builtin.Slice.sliceApplied (.ref sl) (pure (n:Int))) Q E s:=by
  obtain ⟨os,hos,hcs,hds⟩:=id hs;unfold Builtin.Slice.sliceApplied Builtin.Slice.sliceFields;refine aj (aj (wpAny_field hos hds (x:=vl) rfl (aj (wpAny_field hos hds (x:=vu) rfl (aj (wpAny_field hos hds (x := .none) rfl (aq ?_)))))));refine aj (slicePart_none ?_);show wpAny _ _ (if ((1:Int) == 0)=true then _ else _) _ _ s;rw [if_neg (by decide)];refine aj (a4I pl (aj (a4I pu (aj (aq ?_)))));show wpAny _ _ (match Builtin.Slice.sliceAdjust lo hi 1 (n:Int) with | (lo,hi)=>pure (lo,(1:Int),Builtin.Slice.slicePlaces lo hi 1)) _ _ s;rw [adK lo hi n];show wpAny _ _ (pure (((jF n 0 lo:Nat):Int),(1:Int),Builtin.Slice.slicePlaces ((jF n 0 lo:Nat):Int) ((jF n n hi:Nat):Int) 1)) _ _ s;rw [adL];exact aq h
theorem ak1 (xs:Array Value) (i k:Nat):((gk k).filterMap fun (m:Nat)=>xs[((i:Int)+(m:Int) * 1).toNat]?).toArray=((xs.toList.drop i).take k).toArray:=by
  have e:(fun (m:Nat)=>xs[((i:Int)+(m:Int) * 1).toNat]?)=fun m=>xs[i+m]?:=by
    funext m;have:((i:Int)+(m:Int) * 1).toNat=i+m:=by omega
    rw [this]
  rw [e];have:=pick_run xs i k;rw [List.filterMap_map] at this;have e2:((fun x=>xs[x]?) ∘ fun x=>i+x)=fun m=>xs[i+m]?:=rfl;rw [e2] at this;rw [this]
theorem a02 {t:Addr} {items:Array Value} {vl vu:Value} {lo hi:Option Int} (ht:IsTup s.heap t items) (hs:s.heap.IsSliceOf sl vl vu .none) (pl:IsPart vl lo) (pu:IsPart vu hi)
    (hw:¬ (jF items.size 0 lo=0/\jF items.size items.size hi=items.size))
    (h:Q (.ref s.heap.objs.size) { s with heap:=s.heap.push { cls := .type "tuple",data := .seq ((items.toList.drop (jF items.size 0 lo)).take (jF items.size items.size hi - jF items.size 0 lo)).toArray } })
    (hsz:items.size<=sizeLine):wpAny (model prog w) A (getItem (.ref t) (.ref sl)) Q E s:=by
  have afJ:sizeOk (.seq ((items.toList.drop (jF items.size 0 lo)).take (jF items.size items.size hi - jF items.size 0 lo)).toArray):=by
    show ((items.toList.drop (jF items.size 0 lo)).take (jF items.size items.size hi - jF items.size 0 lo)).toArray.size<=sizeLine;rw [bh,ou,List.length_drop,uq];omega
  have hj:jF items.size items.size hi<=items.size:=avM _ _ (bw _) hi;obtain ⟨os,hos,hcs,hds⟩:=id hs;have hTs:s.TypeIs (.ref sl) "slice" := ⟨os,hos,hcs⟩;unfold getItem
  try with_reducible refine wpAny_holding ?_
  first | refine aj (aq ?_) | skip
  refine aj (wpAny_sequenceKey ht.typeIs (by decide) ?_)
  refine aj (wpAny_callSpecial?_slot (name:=Str.ofString "__getitem__") ht.typeIs PyProof.Rows.slot_tuple_getitem
    (wpAny_call_entry PyProof.Rows.slot_tuple_getitem ht.typeIs entry_tuple_getitem ?_ (args_tuple_getitem _ _)))
  show wpAny _ _ (Builtin.Tuple.tupleItemsOf (.ref t) >>= _) _ _ s;refine aj (tupleItemsOf_ ht ?_);refine aj (wpAny_typeOf hTs ?_);rw [if_pos (by decide)];refine aj (a1P hs pl pu ?_)
  have hno:¬ ((((jF items.size 0 lo:Nat):Int) == 0&&(1:Int) == 1&&(jF items.size items.size hi - jF items.size 0 lo) == items.size)=true):=by
    intro q;rw [ak,ak] at q;have q1:((jF items.size 0 lo:Nat):Int)=0:=eq_of_beq q.1.1;have q2:jF items.size items.size hi - jF items.size 0 lo=items.size:=eq_of_beq q.2;exact hw ⟨by omega,by omega⟩
  show wpAny _ _ (if (((jF items.size 0 lo:Nat):Int) == 0&&(1:Int) == 1&&(jF items.size items.size hi - jF items.size 0 lo) == items.size)=true then _ else _) _ _ s;rw [if_neg hno,ak1]
  first
    | exact aj (m:=Builtin.Tuple.tupleExact _) (wpAny_newObj_type (aq ⟨_,rfl,aq h⟩) afJ)
    | exact aj (m:=Builtin.Tuple.tupleExact _) (wpAny_newObj_type (aj (aq (aq ⟨_,rfl,aq h⟩))) afJ)
    | exact aj (aj (m:=Builtin.Tuple.tupleExact _) (wpAny_newObj_type (aq (aq ⟨_,rfl,aq h⟩)) afJ))
    | exact aj (aj (m:=Builtin.Tuple.tupleExact _) (wpAny_newObj_type (aq ⟨_,rfl,aq h⟩) afJ))
end
end HT
namespace L2
open PySem PySem.Spec PyProof.Rows
variable {r:V->Option Int->Option Int->Hp->VK->Prop}{xs:List V}
section
noncomputable abbrev TO:=St->Hp->(Option Int->Hp->Prop)->Prop
noncomputable def PO (X:Cx) (e:Option Expr) (t:TO):Prop :=
  ∀ (pins:List (Addr×Obj)) (s:Shared) (σ:St) (H:Hp) (Q:Option Int->Hp->Prop),Inv X pins σ H s->t σ H Q ->
    [Tk X.need s]->wpAny (model X.prog X.w) X.A (evalPart e X.env) (fun u s'=>∃ o H',Inv X pins σ H' s'/\IsPart u o/\Q o H') X.xe s
noncomputable def aoS:TO:=fun _ H Q=>Q none H
noncomputable def aB6 (t:TE):TO:=fun σ H Q=>t σ H fun x H1=>∃ i,x = .int i/\Q (some i) H1
theorem intsAre_of {ns:List Int}:∀ {us:List Value},Vals (ns.map V.int) us->IntsAre us ns:=by
  induction ns with
  | nil=>intro us r;rw [zq] at r;cases r;exact .nil
  | cons n ns ih =>
    intro us r;rw [iu] at r;cases r with
    | cons r1 r2 =>
      obtain ⟨t,e⟩:=r1;subst e;exact .cons n t (ih r2)
section
variable {X:Cx} {e:Expr} {te:TE} {lo hi:Option Expr} {tl th:TO} {pos p2:Pos}
theorem aoT:PO X none aoS:=by
  intro pins s σ H Q I h _tk;rw [evalPart_none];exact aq ⟨none,H,I,.none,h⟩
theorem aoU (h:PE X e te):PO X (some e) (aB6 te):=by
  intro pins s σ H Q I hw;rw [evalPart_some];refine cR (h pins s σ H _ I hw) fun u s1 ⟨x,H1,I1,r1,q1⟩=>?_;obtain ⟨i,rfl,q⟩:=q1;obtain ⟨t,rfl⟩:=r1;exact ⟨some i,H1,I1,.int i t,q⟩
noncomputable def SlR (X:Cx) (r:V->Option Int->Option Int->Hp->VK->Prop):Prop :=
  ∀ (pins:List (Addr×Obj)) (s:Shared) (σ:St) (H:Hp) (x:V) (v vl vu:Value) (lo hi:Option Int) (sl:Addr) (Q:VK),Inv X pins σ H s->RelV x v->s.heap.IsSliceOf sl vl vu .none->IsPart vl lo->IsPart vu hi->r x lo hi H Q ->
    ∃ T id,typeLookup (.type T) "__getitem__" = pure (some (.builtin id))/\s.TypeIs v T/\wpAny (model X.prog X.w) X.A (getItem v (.ref sl)) (EP X pins σ Q) X.xe s
theorem SlR.or {r':V->Option Int->Option Int->Hp->VK->Prop} (h:SlR X r) (h':SlR X r'):SlR X (fun x lo hi H Q=>r x lo hi H Q∨r' x lo hi H Q):=by
  intro pins s σ H x v vl vu lo hi sl Q I rx hs pl pu q;rcases q with q | q
  . exact h pins s σ H x v vl vu lo hi sl Q I rx hs pl pu q
  . exact h' pins s σ H x v vl vu lo hi sl Q I rx hs pl pu q
noncomputable def tSl (r:V->Option Int->Option Int->Hp->VK->Prop) (te:TE) (tl th:TO):TE:=fun σ H Q=>te σ H fun x H1=>tl σ H1 fun l H2=>th σ H2 fun u H3=>r x l u H3 Q
theorem ak2 (hr:SlR X r) (he:PE X e te) (hl:PO X lo tl) (hu:PO X hi th):PE X (.Subscript e (.Slice lo hi none p2) pos) (tSl r te tl th):=by
  intro pins s σ H Q I h _tk;refine Subscript_ (cR (he pins s σ H _ I h) fun v s1 ⟨x,H1,I1,r1,q1⟩=>?_);refine wpAny_Slice (cR (hl pins s1 σ H1 _ I1 q1) fun vl s2 ⟨l,H2,I2,pl,q2⟩=>cR (hu pins s2 σ H2 _ I2 q2) fun vu s3 ⟨u,H3,I3,pu,q3⟩=>?_);rw [evalPart_none];refine aq ?_;have I4:Inv X pins σ H3 { s3 with heap:=s3.heap.push { cls := .type "slice",data := .fields #[vl,vu,.none] } }:=I3.kept (t':=s3.toks) fun b ob q=>ao _ q;obtain ⟨T,id,hT,ht,hg⟩:=hr pins { s3 with heap:=s3.heap.push { cls := .type "slice",data := .fields #[vl,vu,.none] } } σ H3 x v vl vu l u s3.heap.objs.size Q I4 r1 (Heap.IsSliceOf.new ..) pl pu q3;show wpAny (model X.prog X.w) X.A (subscriptTail e (.Slice lo hi none p2) v (.ref s3.heap.objs.size)) (EP X pins σ Q) X.xe { s3 with heap:=s3.heap.push { cls := .type "slice",data := .fields #[vl,vu,.none] } };exact tail_any (ops:=[.ref s3.heap.objs.size,v]) ht hT hg (by with_unfolding_all rfl)
noncomputable def a70 (xs:List V) (lo hi:Option Int):List V:=(xs.drop (HT.jF xs.length 0 lo)).take (HT.jF xs.length xs.length hi - HT.jF xs.length 0 lo)
theorem a2G (xs:List V) (lo hi:Option Int):(a70 xs lo hi).length<=xs.length:=by
  unfold a70;rw [ou,List.length_drop];omega
noncomputable def aGK (K:bx):V->Option Int->Option Int->Hp->VK->Prop:=fun x lo hi H Q=>∃ a xs,x = .ref a/\uL K H a xs /\
  ¬ (HT.jF xs.length 0 lo=0/\HT.jF xs.length xs.length hi=xs.length)/\∀ p,H p=none->Q (.ref p) (upd H p (.tup (a70 xs lo hi)))
theorem avN:SlR X (aGK X.K):=by
  intro pins s σ H x v vl vu lo hi sl Q I rx hs pl pu h;obtain ⟨a,xs,rfl,hx,hw,q⟩:=h;cases rx;obtain ⟨its,r,ht,hz⟩:=I.tuple hx;have hlen:its.toArray.size=xs.length:=by rw [bh];exact r.length.symm
  refine ⟨"tuple",_,PyProof.Rows.slot_tuple_getitem.lookup,ht.typeIs,?_⟩;refine HT.a02 ht hs pl pu (by rw [hlen];exact hw) ?_ (by rw [hlen];exact hz);rw [hlen];refine ⟨.ref s.heap.objs.size,_,I.laid (t':=s.toks) (o := .tup (a70 xs lo hi)) (fun b ob q=>ao _ q) (bw _) ?_,rfl,q _ (I.hok.fresh (bw _))⟩;exact ⟨jd (a2G xs lo hi) hz,_,(r.drop (HT.jF xs.length 0 lo)).take (HT.jF xs.length xs.length hi - HT.jF xs.length 0 lo),IsTup.new _ _⟩
noncomputable def aB7 (K:bx):R2:=fun x y H Q=>∃ a b xs ys,x = .ref a/\y = .ref b/\uL K H a xs/\uL K H b ys/\xs≠[]/\xs.length+ys.length<=sizeLine /\
  (ys=[]->Q (.ref a) H)/\(ys≠[]->∀ p,H p=none->Q (.ref p) (upd H p (.tup (xs++ys))))
theorem Vals.a03 {us:List Value} (r:Vals xs us):us=[]↔xs=[]:=by
  cases r with
  | nil=>simp
  | cons _ _=>simp
theorem aoV:pN X (binaryOp .Add) (aB7 X.K):=by
  intro pins s σ H x y v u Q I rx ry h;obtain ⟨a,b,xs,ys,rfl,rfl,ha,hb,hx,hz,q1,q2⟩:=h;cases rx;cases ry;obtain ⟨its,r1,p1,_⟩:=I.tuple ha;obtain ⟨its2,r2,p2,_⟩:=I.tuple hb;refine HT.aoR p1 p2 (fun z=>hx (r1.a03.mp z)) (fun z=>⟨.ref a,H,I,rfl,q1 (r2.a03.mp z)⟩) (fun z=>?_) (by rw [← r1.length,← r2.length];exact hz);refine ⟨.ref s.heap.objs.size,_,I.laid (t':=s.toks) (o := .tup (xs++ys)) (fun b ob q=>ao _ q) (bw _) ?_,rfl,q2 (fun w=>z (r2.a03.mpr w)) _ (I.hok.fresh (bw _))⟩;exact ⟨by rw [iz];exact hz,_,r1.append r2,IsTup.new _ _⟩
end
end
variable {n:Nat}{i:Int}{pins:List (Addr×Obj)}{H:Hp}{s:Shared}{x:V}{u v:Value}
section
noncomputable def ixN (n:Nat) (i:Int):Option Nat:=if 0<=i then (if i < n then some i.toNat else none) else if -(n:Int)<=i then some (i+n).toNat else none
noncomputable def yL {α:Type} (xs:List α) (i:Int):Option α:=(ixN xs.length i).bind fun j=>xs[j]?
theorem aoW {j:Nat} (h:ixN n i=some j):seqIndex? i n=some j/\j < n/\-(n:Int)<=i/\i < n:=by
  unfold ixN at h;by_cases h0:0<=i
  . rw [if_pos h0] at h;by_cases h1:i < n
    . rw [if_pos h1] at h;have e:i.toNat=j:=gw.inj h;exact ⟨by rw [seqIndex_of h0 h1,e],by omega,by omega,h1⟩
    . rw [if_neg h1] at h;cases h
  . rw [if_neg h0] at h;by_cases h1:-(n:Int)<=i
    . rw [if_pos h1] at h;have e:(i+n).toNat=j:=gw.inj h;exact ⟨by rw [seqIndex_neg (by omega) h1,e],by omega,h1,by omega⟩
    . rw [if_neg h1] at h;cases h
theorem a96 {α:Type} {xs:List α} {v:α} (h:yL xs i=some v):∃ j,seqIndex? i xs.length=some j/\xs[j]?=some v/\j < xs.length/\-(xs.length:Int)<=i/\i < xs.length:=by
  unfold yL at h;cases e:ixN xs.length i with
  | none=>rw [e] at h;cases h
  | some j =>
    rw [e] at h;obtain ⟨h1,h2,h3,h4⟩:=aoW e;exact ⟨j,h1,h,h2,h3,h4⟩
noncomputable def a97 (b:Expr):Prop:=∀ o i,subscripted b false o i=operate [o,i] (getItem o i)
noncomputable def IxR (X:Cx) (r:R2):Prop :=
  ∀ (value slice:Expr) (pins:List (Addr×Obj)) (s:Shared) (σ:St) (H:Hp) (x y:V) (v u:Value) (Q:VK),Inv X pins σ H s->RelV x v->RelV y u->r x y H Q ->
    subscripted slice false v u=operate [v,u] (getItem v u)->wpAny (model X.prog X.w) X.A (subscriptTail value slice v u) (EP X pins σ Q) X.xe s
noncomputable def MtR (X:Cx) (id:String) (r:V->List V->Hp->VK->Prop):Prop :=
  ∀ (pins:List (Addr×Obj)) (s:Shared) (σ:St) (H:Hp) (x:V) (xs:List V) (v:Value) (us:List Value) (Q:VK),Inv X pins σ H s->RelV x v->Vals xs us->r x xs H Q ->
    wpAny (model X.prog X.w) X.A (call (.builtin id) (v :: us)) (EP X pins σ Q) X.xe s
variable {r:R2}{y:V}
section
variable {X:Cx} {a b:Expr} {ta tb:TE} {pos:Pos}
theorem IxR.or {r':R2} (h:IxR X r) (h':IxR X r'):IxR X (fun x y H Q=>r x y H Q∨r' x y H Q):=by
  intro value slice pins s σ H x y v u Q I rx ry q hs;rcases q with q | q
  . exact h value slice pins s σ H x y v u Q I rx ry q hs
  . exact h' value slice pins s σ H x y v u Q I rx ry q hs
theorem MtR.or {id:String} {r r':V->List V->Hp->VK->Prop} (h:MtR X id r) (h':MtR X id r'):MtR X id (fun x xs H Q=>r x xs H Q∨r' x xs H Q):=by
  intro pins s σ H x xs v us Q I rx rs q;rcases q with q | q
  . exact h pins s σ H x xs v us Q I rx rs q
  . exact h' pins s σ H x xs v us Q I rx rs q
theorem aB9 (hr:IxR X r) (ha:PE X a ta) (hb:PE X b tb) (hs:a97 b):PE X (.Subscript a b pos) (tOp r ta tb):=by
  intro pins s σ H Q I h _tk;exact Subscript_ (av2 ha hb I h fun v u s2 x y H2 I2 rx ry q=>hr a b pins s2 σ H2 x y v u Q I2 rx ry q (hs _ _))
noncomputable def aBA (K:bx):R2:=fun x y H Q=>∃ p xs i v,x = .ref p/\y = .int i/\yG K H p xs/\yL xs i=some v/\Q v H
noncomputable def aBB (K:bx):R2:=fun x y H Q=>∃ p xs i v,x = .ref p/\y = .int i/\uL K H p xs/\yL xs i=some v/\Q v H
noncomputable def aBC:R2:=fun x y H Q=>∃ z i c,x = .str z/\y = .int i/\z.length<=sizeLine/\yL z.cps.toList i=some c/\Q (.str ⟨#[c]⟩) H
theorem aoY:IxR X (aBA X.K):=by
  intro value slice pins s σ H x y v u Q I rx ry h hs;obtain ⟨p,xs,i,z,rfl,rfl,hq,he,q⟩:=h;cases rx;obtain ⟨t,rfl⟩:=ry;obtain ⟨its,r,pl,hz⟩:=I.list hq;obtain ⟨j,h1,h2,h3,h4,h5⟩:=a96 he;obtain ⟨w,ew,rw'⟩:=r.get h2;have hl:=r.length;have hn:=a4A;have fin:EP X pins σ Q w s:=⟨z,H,I,rw',q⟩;by_cases h0:0<=i
  . have hj:i.toNat=j:=by
      rw [seqIndex_of h0 h5] at h1;exact gw.inj h1
    exact item_listR pl.isList h0 (by omega) (by rw [hj];simpa using ew) fin hs
  . have hj:(i+(its.toArray.size:Int)).toNat=j:=by
      rw [seqIndex_neg (by omega) h4] at h1;rw [bh,← hl];exact gw.inj h1
    exact subscriptTail_builtinR (x:=w) pl.isList.typeIs slot_list_getitem.lookup
      (wpAny_getItem_list_neg (Q:=fun r s'=>r=w/\EP X pins σ Q r s') pl.isList (by omega) (by rw [bh] <;> omega) (by omega) (by rw [hj];simpa using ew) ⟨rfl,fin⟩) hs
theorem avO:IxR X (aBB X.K):=by
  intro value slice pins s σ H x y v u Q I rx ry h hs;obtain ⟨p,xs,i,z,rfl,rfl,hq,he,q⟩:=h;cases rx;obtain ⟨t,rfl⟩:=ry;obtain ⟨its,r,pl,hz⟩:=I.tuple hq;obtain ⟨j,h1,h2,h3,h4,h5⟩:=a96 he;obtain ⟨w,ew,rw'⟩:=r.get h2;have hl:=r.length;have hn:=a4A;have fin:EP X pins σ Q w s:=⟨z,H,I,rw',q⟩
  exact subscriptTail_builtinR (x:=w) pl.typeIs slot_tuple_getitem.lookup
    (getItem_tuple (j:=j) (Q:=fun r s'=>r=w/\EP X pins σ Q r s') pl (by omega) (by omega) (by rw [bh,← hl];exact h1) (by simpa using ew) ⟨rfl,fin⟩) hs
theorem avP:IxR X aBC:=by
  intro value slice pins s σ H x y v u Q I rx ry h hs;obtain ⟨z,i,c,rfl,rfl,hz,he,q⟩:=h;obtain ⟨t,rfl⟩:=rx;obtain ⟨t',rfl⟩:=ry;obtain ⟨j,h1,h2,h3,h4,h5⟩:=a96 he;have hl:z.cps.toList.length=z.length:=by simp [Str.length]
  rw [hl] at h1 h4 h5;have hn:=a4A
  exact tail_any (typeIs_str s z t) slot_str_getitem.lookup (getItem_str (c:=c) (by
    have e1:decide (i < -(2 ^ 63:Int))=false:=decide_eq_false (by omega);have e2:decide (i≥2 ^ 63)=false:=decide_eq_false (by omega);rw [e1,e2,Bool.or_false]) (by rw [h1];simpa using h2) ⟨.str ⟨#[c]⟩,H,I.tok _,⟨_,rfl⟩,q⟩) hs
noncomputable def rIx (K:bx):R2:=fun x y H Q=>aBA K x y H Q∨aBB K x y H Q∨aBC x y H Q
theorem avQ:IxR X (rIx X.K):=aoY.or (avO.or avP)
theorem Inv.lst {σ:St} {p:Addr} (I:Inv X pins σ H s) (h:H p=some (.lst xs)) :
    ∃ (its:List Value) (n:Nat),Vals xs its/\s.heap.get? p=some { cls := .type "list",data := .seq its.toArray n }/\xs.length<=sizeLine:=by
  obtain ⟨z,its,n,r,e⟩:=I.hok p _ h;exact ⟨its,n,r,e,z⟩
theorem a98 (lo hi:Option Int) (n:Nat):(sliceBounds lo hi none n).1=((HT.jF n 0 lo:Nat):Int)/\(sliceBounds lo hi none n).2.1=((HT.jF n n hi:Nat):Int)/\(sliceBounds lo hi none n).2.2=1:=by
  refine ⟨?_,?_,rfl⟩
  . cases lo with
    | none=>simp [sliceBounds,HT.jF]
    | some i =>
      simp only [sliceBounds,HT.jF,Option.getD_none,show (1:Int) > 0 by decide,if_true];by_cases h:i < 0
      . simp only [h,if_true] <;> omega
      . simp only [h,if_false] <;> omega
  . cases hi with
    | none=>simp [sliceBounds,HT.jF]
    | some i =>
      simp only [sliceBounds,HT.jF,Option.getD_none,show (1:Int) > 0 by decide,if_true];by_cases h:i < 0
      . simp only [h,if_true] <;> omega
      . simp only [h,if_false] <;> omega
theorem a71 (its:List Value) (lo hi:Option Int):slicePick its.toArray lo hi none=((its.drop (HT.jF its.length 0 lo)).take (HT.jF its.length its.length hi - HT.jF its.length 0 lo)).toArray:=by
  obtain ⟨h1,h2,h3⟩:=a98 lo hi its.toArray.size;unfold slicePick;rw [h1,h2,h3];simp only [sliceRange_one,pick_run,bh] <;> rfl
noncomputable def aGL (K:bx):V->Option Int->Option Int->Hp->VK->Prop:=fun x lo hi H Q=>∃ a xs,x = .ref a/\yG K H a xs/\∀ p,H p=none->Q (.ref p) (upd H p (.lst (a70 xs lo hi)))
theorem aoZ:SlR X (aGL X.K):=by
  intro pins s σ H x v vl vu lo hi sl Q I rx hs pl pu h;obtain ⟨a,xs,rfl,hx,q⟩:=h;cases rx;obtain ⟨its,r,ht,hz⟩:=I.list hx;have hlen:=r.length;refine ⟨"list",_,slot_list_getitem.lookup,ht.isList.typeIs,?_⟩;refine wpAny_getItem_list_slice ht.isList hs pl pu .none (by simp) ?_ (by rw [bh] <;> omega);rw [a71,← hlen];refine ⟨.ref s.heap.objs.size,_,I.laid (t':=s.toks) (o := .lst (a70 xs lo hi)) (fun b ob q=>ao _ q) (bw _) ?_,rfl,q _ (I.hok.fresh (bw _))⟩;exact ⟨jd (a2G xs lo hi) hz,_,0,(r.drop (HT.jF xs.length 0 lo)).take (HT.jF xs.length xs.length hi - HT.jF xs.length 0 lo),dj _ rfl⟩
noncomputable def uN:V->Bool
  | .non=>true
  | .bl _=>true
  | .int _=>true
  | .str _=>true
  | _=>false
noncomputable def eqV:V->V->Bool
  | .non,.non=>true
  | .bl a,.bl b=>a == b
  | .bl a,.int b=>(if a then 1 else 0) == b
  | .int a,.bl b=>a == (if b then 1 else 0)
  | .int a,.int b=>a == b
  | .str a,.str b=>a == b
  | _,_=>false
theorem a1Q {A:Around} (ry:RelV y u) (rx:RelV x v) (fy:uN y=true) (fx:uN x=true):SeqAt.EqAt A s u v (eqV y x):=by
  cases y with
  | non =>
    cases ry;cases x with
    | non=>cases rx;exact SeqAt.EqAt.same _
    | bl b=>cases rx;exact SeqAt.EqAt.none_bool b
    | int b=>obtain ⟨t,rfl⟩:=rx;exact SeqAt.EqAt.none_int b t
    | str b=>obtain ⟨t,rfl⟩:=rx;exact SeqAt.EqAt.none_str b t
    | _=>exact absurd (show false=true from fx) jw
  | bl a =>
    cases ry;cases x with
    | non=>cases rx;exact SeqAt.EqAt.bool_none a
    | bl b=>cases rx;exact SeqAt.EqAt.bool_bool a b
    | int b=>obtain ⟨t,rfl⟩:=rx;exact SeqAt.EqAt.bool_int a b t
    | str b=>obtain ⟨t,rfl⟩:=rx;exact SeqAt.EqAt.bool_str a b t
    | _=>exact absurd (show false=true from fx) jw
  | int a =>
    obtain ⟨t',rfl⟩:=ry;cases x with
    | non=>cases rx;exact SeqAt.EqAt.int_none a t'
    | bl b=>cases rx;exact SeqAt.EqAt.int_bool a t' b
    | int b=>obtain ⟨t,rfl⟩:=rx;exact SeqAt.EqAt.int_int a t' b t
    | str b=>obtain ⟨t,rfl⟩:=rx;exact SeqAt.EqAt.int_str a t' b t
    | _=>exact absurd (show false=true from fx) jw
  | str a =>
    obtain ⟨t',rfl⟩:=ry;cases x with
    | non=>cases rx;exact SeqAt.EqAt.str_none a t'
    | bl b=>cases rx;exact SeqAt.EqAt.str_bool a t' b
    | int b=>obtain ⟨t,rfl⟩:=rx;exact SeqAt.EqAt.str_int a t' b t
    | str b=>obtain ⟨t,rfl⟩:=rx;exact SeqAt.EqAt.str_str a t' b t
    | _=>exact absurd (show false=true from fx) jw
  | _=>exact absurd (show false=true from fy) jw
noncomputable def eqU (x:V) (u:Value):Bool:=match u with
  | .none=>eqV .non x
  | .bool b=>eqV (.bl b) x
  | .int i _=>eqV (.int i) x
  | .str z _=>eqV (.str z) x
  | _=>false
theorem ak3 (r:RelV y u) (f:uN y=true):eqU x u=eqV y x:=by
  cases y with
  | non=>cases r;rfl
  | bl b=>cases r;rfl
  | int i=>obtain ⟨t,rfl⟩:=r;rfl
  | str z=>obtain ⟨t,rfl⟩:=r;rfl
  | _=>exact absurd (show false=true from f) jw
theorem a04 {x:V}:∀ {xs:List V} {us:List Value},Vals xs us->xs.all uN=true->us.any (eqU x)=xs.any fun y=>eqV y x
  | _,_,.nil,_=>rfl
  | y :: xs,u :: us,.cons r t,f=>by
    rw [mq,ak] at f;rw [rm,rm,ak3 r f.1,a04 t f.2]
theorem vK {A:Around} {s:Shared} {x:V} {v:Value} (rx:RelV x v) (fx:uN x=true):∀ {xs:List V} {us:List Value},Vals xs us->xs.all uN=true->∀ u∈us,SeqAt.EqAt A s u v (eqU x u)
  | _,_,.nil,_=>fun u hu=>by cases hu
  | y :: xs,u :: us,.cons r t,f=>fun u' hu=>by
    rw [mq,ak] at f;rcases jq.mp hu with rfl | hu
    . rw [ak3 r f.1];exact a1Q r rx f.1 fx
    . exact vK rx fx t f.2 u' hu
noncomputable def inV (x:V) (xs:List V):Bool:=xs.any fun y=>eqV y x
noncomputable def rIn (K:bx) (neg:Bool):R2:=fun x y H Q=>∃ p xs,y = .ref p/\(yG K H p xs∨uL K H p xs)/\uN x=true/\xs.all uN=true/\Q (.bl (if neg then !inV x xs else inV x xs)) H
theorem ai1:pN X (compareOp .In) (rIn X.K false):=by
  intro pins s σ H x y v u Q I rx ry h;obtain ⟨p,xs,rfl,hq,fx,fs,q⟩:=h;cases ry;rcases hq with hq | hq
  . obtain ⟨its,r,pl,hz⟩:=I.list hq;refine SeqAt.in_listAt (eqU x) pl.isList (fun w hw=>vK rx fx r fs w (by simpa using hw)) ⟨.bl _,H,I,rfl,?_⟩;rw [show its.toArray.any (eqU x)=its.any (eqU x) by simp,a04 r fs];exact q
  . obtain ⟨its,r,pl,hz⟩:=I.tuple hq;refine SeqAt.in_tupleAt (eqU x) pl (fun w hw=>vK rx fx r fs w (by simpa using hw)) ⟨.bl _,H,I,rfl,?_⟩;rw [show its.toArray.any (eqU x)=its.any (eqU x) by simp,a04 r fs];exact q
theorem a99:pN X (compareOp .NotIn) (rIn X.K true):=by
  intro pins s σ H x y v u Q I rx ry h;obtain ⟨p,xs,rfl,hq,fx,fs,q⟩:=h;cases ry;rcases hq with hq | hq
  . obtain ⟨its,r,pl,hz⟩:=I.list hq;refine SeqAt.notIn_listAt (eqU x) pl.isList (fun w hw=>vK rx fx r fs w (by simpa using hw)) ⟨.bl _,H,I,rfl,?_⟩;rw [show its.toArray.any (eqU x)=its.any (eqU x) by simp,a04 r fs];exact q
  . obtain ⟨its,r,pl,hz⟩:=I.tuple hq;refine SeqAt.notIn_tupleAt (eqU x) pl (fun w hw=>vK rx fx r fs w (by simpa using hw)) ⟨.bl _,H,I,rfl,?_⟩;rw [show its.toArray.any (eqU x)=its.any (eqU x) by simp,a04 r fs];exact q
theorem a9A:rA X (.builtin "len") (fun xs H Q=>∃ p ys,xs=[.ref p]/\(yG X.K H p ys∨uL X.K H p ys)/\Q (.int ys.length) H):=by
  intro pins s σ H xs us Q I r h;obtain ⟨p,ys,rfl,hq,q⟩:=h;obtain ⟨u,rfl,rx⟩:=vals1 r;cases rx;have hn:=a4A;rcases hq with hq | hq
  . obtain ⟨its,r',pl,hz⟩:=I.list hq;have hlen:=r'.length;exact Calls.call_len_list pl.isList (by simp only [bh] <;> omega) ⟨.int ys.length,H,I.tok _,⟨s.toks+1,by rw [bh,hlen]⟩,q⟩
  . obtain ⟨its,r',pl,hz⟩:=I.tuple hq;have hlen:=r'.length;exact len_tuple pl (by simp only [bh] <;> omega) ⟨.int ys.length,H,I.tok _,⟨s.toks+1,by rw [bh,hlen]⟩,q⟩
theorem a9B:rA X (.builtin "len") (fun xs H Q=>∃ z,xs=[.str z]/\z.length<=sizeLine/\Q (.int z.length) H):=by
  intro pins s σ H xs us Q I r h;obtain ⟨z,rfl,hz,q⟩:=h;obtain ⟨u,rfl,t,rfl⟩:=vals1 r;have hn:=a4A;exact len_str (by omega) ⟨.int z.length,H,I.tok _,⟨_,rfl⟩,q⟩
theorem rA.or {f:Value} {r r':List V->Hp->VK->Prop} (h:rA X f r) (h':rA X f r'):rA X f (fun xs H Q=>r xs H Q∨r' xs H Q):=by
  intro pins s σ H xs us Q I rs q;rcases q with q | q
  . exact h pins s σ H xs us Q I rs q
  . exact h' pins s σ H xs us Q I rs q
theorem a9C:rA X (.type "list") (fun xs H Q=>∃ p ys,xs=[.ref p]/\(yG X.K H p ys∨uL X.K H p ys)/\∀ l,H l=none->Q (.ref l) (upd H l (.lst ys))):=by
  intro pins s σ H xs us Q I r h;obtain ⟨p,ys,rfl,hq,q⟩:=h;obtain ⟨u,rfl,rx⟩:=vals1 r;cases rx
  have fin:∀ (its:List Value),Vals ys its->ys.length<=sizeLine->∀ (h':Heap) (c':Nat),(∀ b o',s.heap.get? b=some o'->h'.get? b=some o') ->
      h'.get? s.heap.objs.size=some { cls := .type "list",dict:=none,data := .seq its.toArray c',slots:=#[] }->EP X pins σ Q (.ref s.heap.objs.size) { s with heap:=h' }:=fun its r' hz h' c' kp e =>
    ⟨.ref s.heap.objs.size,_,I.laid (t':=s.toks) kp (bw _) (show dG X.prog X.w _ h' _ (.lst ys) from ⟨hz,its,c',r',e⟩),rfl,q _ (I.hok.fresh (bw _))⟩
  rcases hq with hq | hq
  . obtain ⟨its,r',pl,hz⟩:=I.list hq;have hlen:=r'.length;obtain ⟨o,ho,hc,n,hd⟩:=pl.isList;exact call_list_seq p (.inl rfl) ho hc hd (fun h' c' kp e=>fin its r' hz h' c' kp e) (by simp only [bh] <;> omega)
  . obtain ⟨its,r',pl,hz⟩:=I.tuple hq;have hlen:=r'.length;obtain ⟨o,ho,hc,n,hd⟩:=pl;exact call_list_seq p (.inr rfl) ho hc hd (fun h' c' kp e=>fin its r' hz h' c' kp e) (by simp only [bh] <;> omega)
theorem a72:rA X (.type "tuple") (fun xs H Q=>∃ p ys,xs=[.ref p]/\((yG X.K H p ys/\∀ l,H l=none->Q (.ref l) (upd H l (.tup ys)))∨(uL X.K H p ys/\Q (.ref p) H))):=by
  intro pins s σ H xs us Q I r h;obtain ⟨p,ys,rfl,h⟩:=h;obtain ⟨u,rfl,rx⟩:=vals1 r;cases rx;rcases h with ⟨hq,q⟩ | ⟨hq,q⟩
  . obtain ⟨its,r',pl,hz⟩:=I.list hq;have hlen:=r'.length;refine call_tuple_list pl.isList (fun h' kp=>?_) (by simp only [bh] <;> omega);have I1:Inv X pins σ H { s with heap:=h' }:=I.kept (t':=s.toks) kp
    have I2:Inv X pins σ (upd H h'.objs.size (.tup ys)) { s with heap:=h'.push { cls := .type "tuple",data := .seq its.toArray } } :=
      I1.laid (t':=s.toks) (fun b o e=>ao _ e) (bw _) (show dG X.prog X.w _ _ _ (.tup ys) from ⟨hz,its,r',IsTup.new _ _⟩)
    exact ⟨.ref h'.objs.size,_,I2,rfl,q _ (I1.hok.fresh (bw _))⟩
  . obtain ⟨its,r',pl,hz⟩:=I.tuple hq;exact call_tuple_same pl ⟨.ref p,H,I,rfl,q⟩
noncomputable def tyV (K:bx) (T:String) (x:V) (H:Hp):Prop:=match x with
  | .str _=>T = "str"
  | .int _=>T = "int"
  | .ref p=>(T = "list" /\ ∃ xs,yG K H p xs)∨(T = "tuple" /\ ∃ o,K.lookup p=some o/\o.cls = .type "tuple" /\ o.dict=none) ∨
      (T = "dict" /\ ((∃ kvs,H p=some (.dK kvs))∨∃ kvs,H p=some (.dT kvs)))∨(T = "set" /\ ∃ S n,H p=some (.set S n))
  | _=>False
theorem adN {σ:St} {T:String} (I:Inv X pins σ H s) (r:RelV x v) (ty:tyV X.K T x H) :
    s.TypeIs v T/\∀ a,v = .ref a->∃ ob,s.heap.get? a=some ob/\ob.dict=none:=by
  cases x with
  | str z =>
    obtain ⟨t,rfl⟩:=r;cases (show T = "str" from ty);exact ⟨typeIs_str s z t,fun _ e=>nomatch e⟩
  | int i =>
    obtain ⟨t,rfl⟩:=r;cases (show T = "int" from ty);exact ⟨typeIs_int s i t,fun _ e=>nomatch e⟩
  | ref p =>
    cases r;rcases ty with ⟨rfl,xs,hq⟩ | ⟨rfl,o,hk,hc,hd⟩ | ⟨rfl,hk⟩ | ⟨rfl,S,n,hk⟩
    . obtain ⟨its,_,pl,_⟩:=I.list hq;refine ⟨pl.isList.typeIs,fun a e=>?_⟩;cases e;obtain ⟨o,n,e,c,hd,_⟩:=pl;exact ⟨o,e,hd⟩
    . refine ⟨⟨o,I.kIn p o hk,hc⟩,fun a e=>?_⟩;cases e;exact ⟨o,I.kIn _ o hk,hd⟩
    . have z:∃ o,s.heap.get? p=some o/\o.ExactDict:=by
        rcases hk with ⟨kvs,hk⟩ | ⟨kvs,hk⟩
        . obtain ⟨_,_,_,_,o,_,_,e,ex,_⟩:=I.hok p _ hk;exact ⟨o,e,ex⟩
        . obtain ⟨_,_,_,_,o,_,_,e,ex,_⟩:=I.hok p _ hk;exact ⟨o,e,ex⟩
      obtain ⟨o,e,ex⟩:=z;refine ⟨⟨o,e,ex.1⟩,fun a e2=>?_⟩;cases e2;exact ⟨o,e,ex.2.1⟩
    . obtain ⟨o,_,_,_,e,ex,_⟩:=I.hok p _ hk;refine ⟨⟨o,e,ex.1⟩,fun a e2=>?_⟩;cases e2;exact ⟨o,e,ex.2.1⟩
  | _=>exact False.elim ty
variable {o e:Expr} {es:List Expr} {to:TE} {t:TA} {name:Str} {apos cpos:Pos} {T id:String} {r:V->List V->Hp->VK->Prop}
end
end
variable {its:List Value}{t':Nat}
section
noncomputable def MtM (X:Cx) (id:String) (r:V->List V->Hp->VK->Prop):Prop :=
  ∀ (pins:List (Addr×Obj)) (s:Shared) (σ:St) (H:Hp) (x:V) (xs:List V) (v:Value) (us:List Value) (Q:VK),Inv X pins σ H s->RelV x v->Vals xs us->r x xs H Q ->
    wpAny (model X.prog X.w) X.A (call (.builtin id) (v :: us)) (EP X pins σ Q) X.xe s
theorem Vals.one:∀ {x:V} {us:List Value},Vals [x] us->∃ u,us=[u]/\RelV x u
  | _,_,.cons r .nil=>⟨_,rfl,r⟩
theorem Vals.eraseIdx:∀ {xs:List V} {us:List Value} (i:Nat),Vals xs us->Vals (xs.eraseIdx i) (us.eraseIdx i)
  | _,_,_,.nil => .nil
  | _,_,0,.cons _ t=>t
  | _,_,i+1,.cons r t => .cons r (Vals.eraseIdx i t)
section
variable {X:Cx} {pins:List (Addr×Obj)} {σ:St} {H:Hp} {s:Shared} {l b:Addr} {xs ys zs:List V}
theorem Inv.aBD {its':List Value} {f:Array Value->Array Value} (I:Inv X pins σ H s) (hH:H l=some (.lst xs))
    (e:s.heap.get? l=some { cls := .type "list",data := .seq its.toArray n }) (hf:f its.toArray=its'.toArray) (hv:Vals ys its') (hz:ys.length<=sizeLine) :
    Inv X pins σ (upd H l (.lst ys)) { s with heap:=s.heap.update l (Obj.mapSeq f),toks:=t' }:=by
  have q:=PySem.IsL.update e f;rw [hf] at q;refine I.write (x:=l) (e:=l) (by rw [hH];exact trivial) (.inl rfl) (fun b' u hb hu=>(Heap.get?_update_other s.heap (Obj.mapSeq f) (Ne.symm hb)).trans hu) ⟨_,q⟩ ?_;exact ⟨hz,its',_,hv,q⟩
theorem Inv.aBE (I:Inv X pins σ H s) (hv:Vals ys its) (hz:ys.length<=sizeLine) :
    Inv X pins σ (upd H s.heap.objs.size (.lst ys)) { s with heap:=s.heap.push { cls := .type "list",data := .seq its.toArray },toks:=t' } :=
  I.laid (fun _ _ q=>ao _ q) (bw _) ⟨hz,its,0,hv,dj _ rfl⟩
theorem Inv.fresh (I:Inv X pins σ H s):H s.heap.objs.size=none:=I.hok.fresh (bw _)
theorem Inv.ak4 (I:Inv X pins σ H s) (hH:H l=some (.lst xs)):xs.length<=sizeLine/\∃ (its:List Value) (n:Nat),Vals xs its/\xs.length=its.length/\s.heap.get? l=some { cls := .type "list",data := .seq its.toArray n }:=by
  obtain ⟨z,its,n,r,e⟩:=I.hok l _ hH;exact ⟨z,its,n,r,r.length,e⟩
theorem ak5 (h:n<=sizeLine):Builtin.List.listTooLong n=false:=by
  unfold Builtin.List.listTooLong;exact decide_eq_false (by omega)
end
section
variable {X:Cx}
noncomputable def ap0:V->List V->Hp->VK->Prop:=fun x vs H Q=>∃ l xs y,x = .ref l/\vs=[y]/\H l=some (.lst xs)/\xs.length < sizeLine/\Q .non (upd H l (.lst (xs++[y])))
theorem a7Y:MtM X "list.append" ap0:=by
  intro pins s σ H x vs v us Q I rx rv h;obtain ⟨l,xs,y,rfl,rfl,hH,hz,q⟩:=h;cases rx;obtain ⟨u,rfl,ru⟩:=rv.one;obtain ⟨z,its,n,r,hl,e⟩:=I.ak4 hH;refine call_meets F.slot_list_append ⟨_,e,rfl⟩ F.entry_list_append (F.args_list_append_2 _ _) (PySem.list_append l its.toArray n u (by rw [bh];omega)) ⟨e,?_⟩;refine ⟨.non,_,I.aBD (its':=its++[u]) hH e (by simp) (r.append (.cons ru .nil)) ?_,rfl,q⟩;rw [iz,List.length_singleton];omega
noncomputable def ap1:V->List V->Hp->VK->Prop:=fun x vs H Q=>∃ l b xs zs,x = .ref l/\vs=[.ref b]/\H l=some (.lst xs)/\H b=some (.lst zs)/\xs.length+zs.length<=sizeLine/\Q .non (upd H l (.lst (xs++zs)))
theorem aA0:MtM X "list.extend" ap1:=by
  intro pins s σ H x vs v us Q I rx rv h;obtain ⟨l,b,xs,zs,rfl,rfl,hH,hB,hz,q⟩:=h;cases rx;obtain ⟨u,rfl,ru⟩:=rv.one;cases ru;obtain ⟨z,its,n,r,hl,e⟩:=I.ak4 hH;obtain ⟨z2,its2,n2,r2,hl2,e2⟩:=I.ak4 hB;have hsz:its.toArray.size+its2.toArray.size<=sizeLine:=by rw [bh,bh];omega
  have aBF:¬ (!its.toArray.isEmpty&&Builtin.List.listTooLong (its.toArray.size+its2.toArray.size))=true:=by
    rw [ak5 hsz,Bool.and_false];exact jw
  refine call_meets F.slot_list_extend ⟨_,e,rfl⟩ F.entry_list_extend (F.args_list_extend_2 _ _)
    (AutoSeq1.list_extend_list_list_0 l its.toArray n b its2.toArray n2 aBF (by rw [bh];omega) (by omega)) ⟨e,e2,?_⟩
  refine ⟨.non,_,I.aBD (its':=its++its2) hH e (by simp) (r.append r2) ?_,rfl,q⟩;rw [iz];omega
noncomputable def aGM:R2:=fun x y H Q=>∃ l b xs zs,x = .ref l/\y = .ref b/\H l=some (.lst xs)/\H b=some (.lst zs)/\xs.length+zs.length<=sizeLine/\∀ p,H p=none->Q (.ref p) (upd H p (.lst (xs++zs)))
theorem avR:pN X (binaryOp .Add) aGM:=by
  intro pins s σ H x y v u Q I rx ry h;obtain ⟨l,b,xs,zs,rfl,rfl,hH,hB,hz,q⟩:=h;cases rx;cases ry;obtain ⟨z,its,n,r,hl,e⟩:=I.ak4 hH;obtain ⟨z2,its2,n2,r2,hl2,e2⟩:=I.ak4 hB;refine PySem.P.add_list e e2 ?_ (by rw [bh,bh];omega);have ea:its.toArray++its2.toArray=(its++its2).toArray:=by simp
  rw [ea];exact ⟨.ref _,_,I.aBE (t':=s.toks) (r.append r2) (by rw [iz];omega),rfl,q _ I.fresh⟩
end
section
variable {prog:Program} {w:World} {A:Around} {E:Value->Shared->Prop} {s:Shared}
end
section
variable {X:Cx}
end
end
end L2
namespace Att
open PySem PySem.W PySem.Calls PyProof.Rows
variable {P:Params}{h:Heap}
theorem a2X:∀ (ns:List Int) (vs:List Value),WellAll P h vs (ns.map WData.int)->IntsAre vs ns:=by
  intro ns
  induction ns with
  | nil =>
    intro vs w;rw [zq] at w;cases w;exact .nil
  | cons n ns ih =>
    intro vs w;rw [iu] at w;cases w with
    | cons a b =>
      cases a;exact .cons _ _ (ih _ b)
variable {l:OpenLaw}{n:Nat}
theorem ai2 (hn:l.most=some n) {args:List WData} {vals:List Value}
    (hpre:l.row.toRowW.claim.pre args=true) (hwl:WellAll P h vals args) :
    ∃ a vs ns,vals=[Value.ref a]/\args=[WData.list (ns.map WData.int)]/\h.get? a=some { cls := .type "list",data := .seq vs.toArray }/\IntsAre vs ns/\ns.length<=n:=by
  have hsh:WShape.hasAll [] args [.list .int]=true:=(pre_splitW hpre).1;have hc:l.pre.holds [] { args:=args }=true:=(pre_splitW hpre).2;obtain ⟨d,r,rfl,h1,h2⟩:=hasAllW_cons hsh;obtain rfl:=hasAllW_nil h2;obtain ⟨xs,rfl,h3⟩:=hasW_list h1;obtain ⟨ns,rfl⟩:=items_int h3
  have hlen:ns.length<=n:=by
    unfold OpenLaw.pre at hc
    have h4:(WTm.not (.lt (.lit (.int (n:Int))) (.len (.arg 0)))).holds [] { args:=[.list (ns.map .int)] }=true:=by
      have h4:=(holds_andW hc).1;rw [hn] at h4;exact h4
    have h5:=condW_of h4 (w_not (w_lt w_lit (w_len_list (w_arg rfl))));rw [au] at h5;refine Nat.le_of_not_lt fun q=>?_;have q':(n:Int) < ((ns.length:Nat):Int):=by omega
    first
      | (rw [decide_eq_true q'] at h5;exact absurd h5 (by decide))
      | (simp at h5;omega)
  cases hwl with
  | cons w1 w2 =>
    cases w2;cases w1 with
    | list ho hall=>exact ⟨_,_,ns,rfl,rfl,ho,a2X ns _ hall,hlen⟩
theorem ai3 (l:OpenLaw) (args:List WData):l.row.toRowW.claim.post args (.bool true) args=true :=
  postW_of (r:=l.row.toRowW) (X:=(true == true))
    (show WShape.has [] (.bool true) .bool=true by first | rfl | decide | simp [WShape.has,WShape.arms,WShape.armsAll])
    (show (WTm.eq .res (.lit (.bool true))).value [] { args:=args,res:=some (.bool true),after:=args }=some (.bool (true == true)) from w_eq_bool (w_res rfl) w_lit) rfl
theorem ab3 {q:Program} {loose:List Str} {XP:(Str->Option Value)->Heap->Prop} {YP:World->Heap->Prop} {d:DefRec}
    (hn:l.most=some n) (hdf:d.params.defaults=[])
    (call:∀ (w:World) (s₀ s₁:Shared) (mg mb:Str->Option Value) (fa:Addr) (o:Obj) (pm cd doc:Value) (a:Addr) (vs:List Value) (ns:List Int),
      Ground q loose [] XP w s₀ mg mb s₁.heap->YP w s₁.heap ->
      s₁.heap.get? fa=some o->o.data = .func (docDef d.name d.params d.body d.scope pm cd doc)->s₁.heap.CodeRec cd d.name->mg d.name=some (.ref fa) ->
      s₁.heap.get? a=some { cls := .type "list",data := .seq vs.toArray }->IntsAre vs ns->ns.length<=n->s₁.gens=#[] ->
      codeAny (model l.prog w) callerA (.call (.ref fa) ⟨[.ref a],[]⟩) (fun r s'=>r = .ok (.ret (.bool true))/\OldK s₁.heap s'.heap/\s'.os=s₁.os/\AllBare s'.gens) s₁) :
    WalkO q loose XP YP l.row.toRowW d [] (fun f vs=>PySem.call f vs):=by
  intro w s₀ s₁ mg mb G Y fa o pm cd doc dV kV ho hd hcd hD hmg hg args vals as hpre hlay hrd hwl hlo;obtain rfl:dV = .none:=Dflts.none hD hdf;obtain rfl:kV = .none:=Dflts.noKw hD;obtain ⟨a,vs,ns,rfl,rfl,hobj,hints,hlen⟩:=ai2 hn hpre hwl;refine enter_call (codeAny_mono (call w s₀ s₁ mg mb fa o pm cd doc a vs ns G Y ho (fd_plain hd) hcd hmg hobj hints hlen hg) fun r s' hq=>?_);obtain ⟨rfl,h2,h3,h4⟩:=hq;exact ⟨.inl ⟨.bool true,.bool true,[],rfl,fun _=>rfl,.bool true,ai3 l _,fun _=>⟨List.Pairwise.nil,fun _ hm=>(nomatch hm)⟩⟩,h2,h3,h4⟩
section
variable {prog:Program} {w:World} {A:Around} {E:Value->Shared->Prop} {s:Shared} {K:Frag}
noncomputable def ledger (h:Heap) (L d:Addr):List (Addr×Obj):=(gk h.objs.size).filterMap fun a=>if a=L∨a=d then none else (h.get? a).map fun o=>(a,o)
end
end Att
namespace L2
open PySem PySem.Spec PyProof.Rows
section
theorem a1R:∀ {vs:List Value} {ns:List Int},IntsAre vs ns->Vals (ns.map V.int) vs
  | _,_,.nil => .nil
  | _,_,.cons n t h => .cons ⟨t,rfl⟩ (a1R h)
end
end L2
namespace L2
open PySem PySem.Spec PyProof.Rows
variable {x qual:Str}{st:Stmt}{fd:FuncData}{N ps:List Str}{sp:Sp}{oc:Value}{osl:Array (Option Value)}{pos:Pos}{H H':Hp}{a:Addr}{xs:List V}
section
noncomputable def jY (s:Stmt):Arguments:=match s with
  | .FunctionDef _ a _ _ _ _ _ _ _ _=>a
  | _=>{ posonlyargs:=[],args:=[],vararg:=none,kwonlyargs:=[],kw_defaults:=[],kwarg:=none,defaults:=[] }
noncomputable def cA (s:Stmt):List Stmt:=match s with
  | .FunctionDef _ _ b _ _ _ _ _ _ _=>b
  | _=>[]
noncomputable def aH (s:Stmt):Scope:=match s with
  | .FunctionDef _ _ _ _ _ _ sc _ _ _=>sc
  | _=>{ kind := .function,names:=[],isGenerator:=false,isCoroutine:=false }
noncomputable abbrev CX0:CXT:=fun _ _ _ _ _ _=>False
structure v9 (K:bx) (x qual:Str) (st:Stmt) (f:Addr) (fd:FuncData):Prop where
  ex:∃ (oc:Value) (od:Option Addr) (dV kV doc pm:Value) (an:Option Addr) (cdv ct:Value) (osl:Array (Option Value)),
    fd=nu x qual (jY st) (cA st) (aH st) dV kV doc pm an cdv ct/\K.lookup f=some ⟨oc,od,.func fd,osl⟩/\uo K cdv qual=true
  kp:jy K (.ref f)=true
variable {f:Addr}
section
variable {P:Program} {w:World} {K:bx} {mg:Str->Option Value} {base:Heap}
theorem v9.ok {k:Nat} (F:v9 K x qual st f fd) (S:bD N ps (aH st)) (len:∀ vs H Q E,sp vs H Q E->vs.length=ps.length)
    (hbody:∀ (cdv:Value) (A:Around) (outer:List Env) (s:Shared) (H:Hp) (vs:List V) (Q:VK) (E:XK),cO qt k (A.deeper (envOfC qual (aH st) s.heap.objs.size f cdv))->sp vs H Q E ->
      ∃ t,PSs (gQ qt CX0 P w K mg base N qual (aH st) f cdv A outer s H E).nox (cA st) t/\t { nx:=fun _ H'=>Q .non H',rt:=Q } (start N vs) H):cG qt P w K mg base CX0 (k+1) f fd ps sp:=by
  obtain ⟨oc,od,dV,kV,doc,pm,an,cdv,ct,osl,rfl,lk,hcd⟩:=F.ex;refine ajU lk hcd S len fun A outer s H vs Q E hr hsp=>?_;obtain ⟨t,h,q⟩:=hbody cdv A outer s H vs Q E hr hsp;exact ⟨t,h.nox,q⟩
theorem ak6 {od an:Option Addr} {dV kV doc pm cdv ct:Value} (l:K.lookup f=some ⟨oc,od,.func (nu x qual (jY st) (cA st) (aH st) dV kV doc pm an cdv ct),osl⟩)
    (c:uo K cdv qual=true) (k:jy K (.ref f)=true):v9 K x qual st f (nu x qual (jY st) (cA st) (aH st) dV kV doc pm an cdv ct):=⟨⟨oc,od,dV,kV,doc,pm,an,cdv,ct,osl,rfl,l,c⟩,k⟩
end
section
variable {X:Cx}
theorem pv (i:Nat) (hN:X.N[i]?=some x:=by rfl) (hv:Vis X.env.scope x:=by first | exact Or.inl rfl | exact Or.inr (Or.inl rfl) | exact Or.inr (Or.inr rfl)) (hd:(x == ("__debug__" : Str))=false:=by decide)
    (hcd:(x == ("__classdict__" : Str))=false:=by decide):PE X (.Name x pos) (auL i):=adE hN hv hd hcd
end
noncomputable def Same (H H':Hp):Prop:=∀ b o,H b=some o->H' b=some o
theorem Same.refl (H:Hp):Same H H:=fun _ _ h=>h
theorem Same.trans {H1 H2:Hp} (a:Same H H1) (b:Same H1 H2):Same H H2:=fun c o h=>b c o (a c o h)
theorem Same.free (e:Same H H') {l:Addr} (h:H' l=vd):H l=vd:=by
  cases q:H l with
  | none=>rfl
  | some o =>
    rw [e l o q] at h;cases h
theorem Same.seq {K:bx} (e:Same H H') (h:yG K H a xs):yG K H' a xs:=by
  rcases h with (h | ⟨o,h⟩) | h
  . exact .inl (.inl (e _ _ h))
  . exact .inl (.inr ⟨o,e _ _ h⟩)
  . exact .inr h
section
variable {X:Cx}
end
section
variable {κ:Type} [DecidableEq κ]
end
end
section
section
open AutoSeq1 (wpAny_loadPart')
end
section
variable {prog:Program} {w:World} {A:Around} {E:Value->Shared->Prop} {s:Shared}
end
section
variable {prog:Program} {w:World} {A:Around} {R:Result->Shared->Prop} {I:Addr} {fp wr:List Addr} {P:Nat->Value->Prop} {St:Nat->Heap->Prop}
end
section
open PySem.SeqAt
open PySem.AutoSeq1 (wpAny_loadPart')
open PySem.MeetsSeq PySem.MeetsSeq2 PySem.MeetsSeq3
end
end
variable {P:Program}{h:Heap}{o:Obj}{c':Addr}{A:Around}{E:Value->Shared->Prop}{name:Str}{params:Arguments}{body:List Stmt}{scope:Scope}{firstLine:Nat}{clos:List (Str×Addr)}
section
open PySem.W
section
variable {P:Program} {w:World} {fs ex:List Addr} {H:Hp} {h h':Heap} {T:Addr} {ps more:Array Value}
theorem qL.grow (x:qL P w H h) (e:H T=some (.vB ps)) (k:∀ b u,b≠T->h.get? b=some u->h'.get? b=some u) (hT:h'.get? T=some (tabObj (ps++more))):qL P w (upd H T (.vB (ps++more))) h':=fun a o q=>by
  by_cases z:a=T
  . subst z;rw [aF] at q;cases q;exact hT
  . rw [aJ z] at q;refine (x a o q).stay (fun b u hb hu=>k b u ?_ hu) (fun b hb=>?_) fun b xs hb=>?_
    . rcases hb with rfl | hb
      . exact z
      . intro y;subst y;rw [e] at hb;cases hb
    . rw [aJ (fun y=>by subst y;rw [e] at hb;cases hb)];exact hb
    . rw [aJ (fun y=>by subst y;rw [e] at hb;cases hb)];exact hb
end
noncomputable def lK (H:Hp) (c':Addr) (qual:Str):Prop:=∃ (oc:Obj) (vs:Array Value) (t:Tok),H c'=some (.nQ oc (.ext fun _=>True))/\oc.data = .fields vs/\vs[1]?=some (.str qual t)
noncomputable def rB (H:Hp) (qual:Str) (pos:Pos) (ps:Array Value):Prop:=ps=#[]∨∃ c',ps=#[rawInt pos.line,rawInt pos.col,.ref c']/\lK H c' qual
noncomputable abbrev vA (o:Obj):HO := .nQ o (.ext fun _=>True)
theorem rC {w:World} (e:h.get? a=some o):dG P w H h a (vA o):=⟨e,trivial,⟨o,e⟩,fun _ _ _ _=>trivial⟩
theorem lK.keep (r:lK H c' qual) (k:∀ a o φ,H a=some (.nQ o (.ext φ))->H' a=some (.nQ o (.ext φ))):lK H' c' qual:=by
  obtain ⟨oc,vs,t,e,r⟩:=r;exact ⟨oc,vs,t,k _ _ _ e,r⟩
theorem rB.keep {H H':Hp} {qual:Str} {pos:Pos} {ps:Array Value} (r:rB H qual pos ps) (k:∀ a o φ,H a=some (.nQ o (.ext φ))->H' a=some (.nQ o (.ext φ))):rB H' qual pos ps:=by
  rcases r with r | ⟨c',e,r⟩
  . exact .inl r
  . exact .inr ⟨c',e,r.keep k⟩
section
variable {X:Cx} {pins:List (Addr×Obj)} {σ:List (Option V)} {H:Hp} {s:Shared}
theorem Inv.grow {T c':Addr} {ps more:Array Value} {oc:Obj} {h':Heap} {t':Nat} (I:Inv X pins σ H s) (e:H T=some (.vB ps)) (k:∀ b u,b≠T->s.heap.get? b=some u->h'.get? b=some u) (hT:h'.get? T=some (tabObj (ps++more))) (hc:s.heap.objs.size<=c') (ho:h'.get? c'=some oc) :
    Inv X pins σ (upd (upd H T (.vB (ps++more))) c' (vA oc)) { s with heap:=h',toks:=t' }:=by
  have fr:H c'=none:=I.hok.fresh hc;have tc:T≠c':=aR e fr;have nT:∀ b,H b=none->b≠T:=fun b n z=>by subst z;rw [e] at n;cases n
  have old:∀ b o,s.heap.get? b=some o->b≠c':=fun b o q=>dw (dg (cu q) hc);have hk2:qL X.prog X.w (upd H T (.vB (ps++more))) h':=I.hok.grow e k hT;refine I.step (ch:=[]) (fun b z=>nomatch z) (fun b o _ _ _ q n=>k b o (nT b n) q) (fun b o _ _ _ q n=>⟨o.slots,k b o (nT b n) q⟩) (fun b o _ q n=>?_) (fun b o _ q=>?_) (fun b xs q=>?_) (fun b o u q=>?_) (fun b qs q=>?_) (fun m hn=>?_) (fun a o q=>?_) I.bare
  . rw [aJ (old b o q),aJ (nT b n)];exact n
  . by_cases z:b=T
    . subst z;exact ⟨_,hT⟩
    . exact ⟨o,k b o z q⟩
  . rw [aJ (aR q fr),aJ (nR q e (fun z=>by cases z))];exact q
  . rw [aJ (aR q fr),aJ (nR q e (fun z=>by cases z))];exact q
  . by_cases z:b=T
    . subst z;rw [e] at q;cases q;exact ⟨more,by rw [aJ tc,aF]⟩
    . exact ⟨#[],by rw [aJ (aR q fr),aJ z,q];simp⟩
  . obtain ⟨o,es,ep,q,r⟩:=hn;exact ⟨o,es,ep,k _ _ (nT _ I.free) q,r⟩
  . by_cases z:a=c'
    . subst z;rw [aF] at q;cases q;exact rC ho
    . rw [aJ z] at q;refine (hk2 a o q).stay (fun _ _ _ h=>h) (fun b hb=>?_) fun b xs hb=>?_
      . rw [aJ (fun y=>by subst y;rw [aJ (Ne.symm tc),fr] at hb;cases hb)];exact hb
      . rw [aJ (fun y=>by subst y;rw [aJ (Ne.symm tc),fr] at hb;cases hb)];exact hb
theorem ap2 {Q:Value->Shared->Prop} {c T:Addr} {ps:Array Value} (I:Inv X pins σ H s) (hT:H T=some (.vB ps)) (st:rB H qual pos ps) (C:CodeHd X.base c T) (hb:X.base.BuiltinsAt X.mg T) (hcode:X.env.code = .ref c) (hcl:closureFor scope X.env=pure clos)
    (h:∀ f c' doc ctv ps' H' s',Inv X pins σ H' s'->H f=none->H' f=some (vA (fnMade name qual params body scope clos doc ((X.mg "__name__").getD .none) c' ctv))->lK H' c' qual->H' T=some (.vB ps')->rB H' qual pos ps'->(∀ b u,b≠T->H b=some u->H' b=some u)->Q (.ref f) s') :
    wpAny (model X.prog X.w) A (makeFunction name qual params (.stmts body) scope X.env [] [] [] pos firstLine) Q E s:=by
  have hP:s.heap.get? T=some (tabObj ps):=I.hok T _ hT;have hg:s.heap.Ns mainGlobals X.mg:=I.mod.glob.keeps I.bk;have hC:CodeHd s.heap c T:=C.keeps I.bk
  have hgT:mainGlobals≠T:=fun z=>by
    obtain ⟨o,es,ep,q,d,_⟩:=hg;rw [z,hP] at q;cases q;cases d
  have hbs:s.heap.BuiltinsAt X.mg T:=by
    obtain ⟨bm,o,b1,b2,b3,b4,b5,b6⟩:=hb;exact ⟨bm,o,b1,b2,b3,b4,I.bk _ _ b5,b6⟩
  rcases id st with st0 | ⟨c',e,rec⟩
  . subst st0;refine makeFunction_K (mg:=X.mg) hcl I.ok.glob hg hcode hC hP trivial rfl hgT hbs fun c' ctv doc h' tk hx hge hlt hrec htb=>?_;obtain ⟨c₂,oc,vs,t,e2,hoc,hd,hv⟩:=hrec;cases e2;have I1:=I.grow (t':=s.toks) (c':=c') hT (fun b u n q=>hx b u n q) htb hge hoc;have fr:H c'=none:=I.hok.fresh hge;have tc:T≠c':=aR hT fr;have ff:H h'.objs.size=none:=I.hok.fresh (jd hge (nj hlt));have I2:=I1.laid (t':=tk) (o:=vA (fnMade name qual params body scope clos doc ((X.mg "__name__").getD .none) c' ctv)) (fun b u q=>ao _ q) (bw _) (rC (dj _ rfl));have n1:c'≠h'.objs.size:=dw hlt;have n2:T≠h'.objs.size:=aR hT ff;have rc:lK (upd (upd (upd H T (.vB (#[]++#[rawInt pos.line,rawInt pos.col,.ref c']))) c' (vA oc)) h'.objs.size (vA (fnMade name qual params body scope clos doc ((X.mg "__name__").getD .none) c' ctv))) c' qual:=⟨oc,vs,t,by rw [aJ n1,aF],hd,hv⟩;refine h h'.objs.size c' doc ctv _ _ _ I2 ff aF rc (by rw [aJ n2,aJ tc,aF]) (.inr ⟨c',by simp,rc⟩) fun b u hb q=>?_;rw [aJ (aR q ff),aJ (aR q fr),aJ hb];exact q
  . subst e;have hf:codeAmong pos (#[rawInt pos.line,rawInt pos.col,Value.ref c']:Array Value).toList=some (.ref c'):=by simp [codeAmong,rawInt]
    refine makeFunction_hit (mg:=X.mg) hcl I.ok.glob hg hcode hC hP trivial hf hbs fun ctv doc h' tk hk hsz=>?_;have ff:H h'.objs.size=none:=I.hok.fresh hsz;have I1:=I.kept (t':=s.toks) hk;have I2:=I1.laid (t':=tk) (o:=vA (fnMade name qual params body scope clos doc ((X.mg "__name__").getD .none) c' ctv)) (fun b u q=>ao _ q) (bw _) (rC (dj _ rfl));have kf:∀ b u,H b=some u->upd H h'.objs.size (vA (fnMade name qual params body scope clos doc ((X.mg "__name__").getD .none) c' ctv)) b=some u:=fun b u q=>by rw [aJ (aR q ff)];exact q
    exact h h'.objs.size c' doc ctv _ _ _ I2 ff aF (rec.keep fun a o u q=>kf a _ q) (kf _ _ hT) (.inr ⟨c',rfl,rec.keep fun a o u q=>kf a _ q⟩) fun b u _ q=>kf b u q
end
end
variable {qt:Bool}{CX:CXT}{mg:Str->Option Value}{base:Heap}{pre:List Stmt}
section
open PySem.W
theorem a1S {env:Env}:∀ (a b:List Stmt),execs (a++b) env=(execs a env >>= fun f=>match f with | .next=>execs b env | f=>pure f)
  | [],b=>by simp [execs]
  | s :: r,b=>by
    rw [tu,execs,execs,bind_assoc];congr 1;funext f;cases f with
    | next=>exact a1S r b
    | _=>simp
section
variable {P:Program} {w:World} {fs ex:List Addr} {H H':Hp} {h h':Heap} {a:Addr} {o:Obj}
theorem qL.adopt (x:qL P w H h) (n:H a=none) (e:h.get? a=some o):qL P w (upd H a (vA o)) h:=fun b u q=>by
  by_cases z:b=a
  . subst z;rw [aF] at q;cases q;exact rC e
  . rw [aJ z] at q;exact (x b u q).stay (fun _ _ _ h=>h) (fun c hc=>by rw [aJ (aR hc n)];exact hc) fun c xs hc=>by rw [aJ (aR hc n)];exact hc
theorem Un.adopt {u:HO} (x:Un fs ex H H' h h') (n:H' a=none) (new:h.objs.size<=a):Un fs ex H (upd H' a u) h h' where
  keep:=x.keep
  slot:=x.slot
  free:=fun b o q m hx=>by rw [aJ (dw (dg (cu q) new))];exact x.free b o q m hx
  there:=x.there
  tups:=fun b xs q=>by rw [aJ (aR (x.tups b xs q) n)];exact x.tups b xs q
  dI:=fun b o v q=>by rw [aJ (aR (x.dI b o v q) n)];exact x.dI b o v q
  mL:=fun b ps q=>by
    obtain ⟨more,e⟩:=x.mL b ps q;exact ⟨more,by rw [aJ (aR e n)];exact e⟩
end
section
variable {X:Cx} {name qual:Str} {params:Arguments} {body:List Stmt} {scope:Scope} {pos:Pos} {clos:List (Str×Addr)} {c T:Addr} {i:Nat}
noncomputable def aBG (K:bx) (pm:Value) (T:Addr) (name qual:Str) (params:Arguments) (body:List Stmt) (scope:Scope) (pos:Pos) (clos:List (Str×Addr)) (i:Nat):TS:=fun D σ H=>∃ ps,H T=some (.vB ps)/\rB H qual pos ps /\
  ∀ f c' doc ctv ps' H',K.lookup f=none->H f=none->H' f=some (vA (fnMade name qual params body scope clos doc pm c' ctv))->lK H' c' qual->H' T=some (.vB ps')->rB H' qual pos ps'->(∀ b u,b≠T->H b=some u->H' b=some u)->D.nx (σ.set i (some (.ref f))) H'
theorem ap3 (hd0:params.defaults=[]) (hk0:params.kw_defaults=[]) (ha:annTrees params none X.env=[]) (hq:qualnameIn X.env name name=qual) (C:CodeHd X.base c T) (hb:X.base.BuiltinsAt X.mg T) (hcode:X.env.code = .ref c) (hcl:closureFor scope X.env=pure clos) (hN:X.N.Nodup) (hi:X.N[i]?=some name) (hx:Loc X.env.scope name) (hf:X.fn name=true∨X.env.scope.names.lookup name=some .local) :
    PS X (.FunctionDef name params body [] none [] scope none name pos) (aBG X.K ((X.mg "__name__").getD .none) T name qual params body scope pos clos i):=by
  intro pins s σ H D I h _tk;obtain ⟨ps,hT,st,h⟩:=h;refine nestDef_K hd0 hk0 ha ?_;rw [hq];refine ap2 I hT st C hb hcode hcl fun f c' doc ctv ps' H' s' I' ff hf' rc hT' st' kp=>?_
  have kf:X.K.lookup f=none:=by
    cases q:X.K.lookup f with
    | none=>rfl
    | some o =>
      have:=(I'.bs f o (I'.ok.mod.kin f o q)).2;rw [hf'] at this;cases this
  exact vD (v := .ref f) I' hN hi hx rfl (fun s'' I''=>⟨_,H',I'',h f c' doc ctv ps' H' kf ff hf' rc hT' st' kp⟩) hf
end
theorem ak7 {w:World} {K:bx} {k:Nat} {f:Addr} {g:Str} {pg pr:Pos} {dV kV doc pm cdv ct:Value} {an od:Option Addr} {ig ix:Nat} (lk:K.lookup f=some ⟨oc,od,.func (nu name qual params (pre++[.Return (some (.Name g pg)) pr]) scope dV kV doc pm an cdv ct),osl⟩) (hcd:uo K cdv qual=true) (S:bD N ps scope)
    (len:∀ vs H Q E,sp vs H Q E->vs.length=ps.length) (hg:N[ig]?=some g) (hgv:Vis scope g) (hx:N[ix]?=some x) (hxc:scope.names.lookup x=some .cell) (hdb:(g == ("__debug__" : Str))=false) (hcl:(g == ("__classdict__" : Str))=false)
    (hbody:∀ (A:Around) (outer:List Env) (s:Shared) (H:Hp) (vs:List V) (Q:VK) (E:XK),cO qt k (A.deeper (envOfC qual scope s.heap.objs.size f cdv))->sp vs H Q E ->
      ∃ t,PSs (gQ qt CX P w K mg base N qual scope f cdv A outer s H E) pre t/\t { nx:=fun σ' H'=>∃ fA vv,σ'[ig]?=some (some (.ref fA))/\σ'[ix]?=some (some vv)/\∀ cc u ob,(cellsFrom (s.heap.objs.size+1) scope.names []).lookup x=some cc->RelV vv u->ob.data = .cell (some u)->H' cc=none->Q (.ref fA) (upd H' cc (vA ob)),rt:=fun _ _=>False } (start N vs) H) :
    cG qt P w K mg base CX (k+1) f (nu name qual params (pre++[.Return (some (.Name g pg)) pr]) scope dV kV doc pm an cdv ct) ps sp:=by
  refine ⟨len,fun A outer s H args us vs Q E hr e0 hb r hsp=>?_⟩;have hl:=len _ _ _ _ hsp;have KX:K.In s.heap:=e0.mod.kin.keeps fun b o e=>(e0.bs b o e).1;have lim:s.heap.NoLimit:=e0.mod.nolimit.keeps fun b o e=>(e0.bs b o e).1
  have hkind:∀ y∈ps.zip us,scope.names.lookup y.1=some .local∨(scope.names.lookup y.1=some .cell/\((cellsFrom (s.heap.objs.size+1) scope.names []).lookup y.1).isSome=true):=fun ⟨n,v⟩ hy=>by
    rcases S.par n (ug hy).1 with q | q
    . exact .inl q
    . exact .inr ⟨q,yg _ _ _ (.inl q)⟩
  refine codeAny_call_function hr.depth (KX _ _ lk) rfl S.co S.gen rfl (a0c KX hcd) (hb _ _ _ _ ?_);refine wpAny_newFunctionEnv_cells S.kind hkind fun env he s1 y=>?_;subst he;refine ⟨lim.keeps y.toInCall.keep,codeAny_func ?_⟩;obtain ⟨t,ht,hq⟩:=hbody A outer s H vs Q E (hr.deeper _) hsp;have I:Inv (gQ qt CX P w K mg base N qual scope f cdv A outer s H E) [] (start N vs) H s1:=a1O S hr.hd e0 hl r y;rw [a1S];refine aj (wpAny_mono (ht [] s1 (start N vs) H _ I hq) (fun fl s' hs=>?_) fun e s' hs=>hs);cases fl with
  | ret u=>obtain ⟨_,_,_,_,_,z⟩:=hs;exact z.elim
  | brk=>obtain ⟨_,_,_,z⟩:=hs;exact False.elim z
  | cont=>obtain ⟨_,_,_,z⟩:=hs;exact False.elim z
  | next =>
    obtain ⟨σ',H',J,fA,vv,e1,e2,q⟩:=hs;have pn:=adE (X:=gQ qt CX P w K mg base N qual scope f cdv A outer s H E) (pos:=pg) hg hgv hdb hcl [] s' σ' H' (fun v H1=>v = .ref fA/\H1=H') J ⟨_,e1,rfl,rfl⟩;refine wpAny_execs_cons (wpAny_Return_some (wpAny_mono pn (fun u s2 ⟨v,H2,J2,rv,ev,eH⟩=>?_) fun e s' hs=>hs));subst ev eH;obtain rfl:u=Value.ref fA:=rv;show CE outer P w H s Q (.ref fA) s2;obtain ⟨m,hn,hloc⟩:=id J2.loc;obtain ⟨ux,rx,lx⟩:=hloc ix x vv hx e2 (.inr (.inl hxc));rcases lx with ⟨kl,_⟩ | ⟨_,cc,ec,ob,eo,ed⟩
    . have kl:scope.names.lookup x=some .local:=kl;rw [hxc] at kl;cases kl
    . have n:H2 cc=none:=J2.fZ x cc ec;have new:s.heap.objs.size<=cc:=J2.ok.cab x cc rfl ec;exact ⟨.ref fA,upd H2 cc (vA ob),J2.os,J2.bare,J2.base.adopt n new,J2.hok.adopt n eo,rfl,q cc ux ob ec rx ed n⟩
end
variable {Q:VK}{u:Value}{cc b:Addr}{outer:List Env}{s:Shared}{us:List Value}{vs:List V}{vv:V}{args:Args}
section
open PySem.W
theorem jZ:∀ (names:List (Str×NameKind)) (n:Nat) (acc:List (Str×Addr)),cellsFrom n names acc=cellsFrom n names []++acc
  | [],_,_=>rfl
  | (name,kind) :: r,n,acc=>by
    unfold cellsFrom;split
    . rw [jZ r (n+1) ((name,n) :: acc),jZ r (n+1) [(name,n)],List.append_assoc];rfl
    . exact jZ r n acc
noncomputable def fW (name:Str) (scope:Scope) (L a:Addr) (cd:Value) (cl:List (Str×Addr)):Env :=
  { scope:=scope,locals:=L,globals:=mainGlobals,cells:=cellsFrom (L+1) scope.names cl,qual:=name ++ ".<locals>.",func:=some a,code:=cd,frame:=some L,builtins:=builtinsNs }
structure InX (s:Shared) (L:Addr) (m:Str->Option Value) (names:List (Str×NameKind)) (s1:Shared):Prop where
  call:InCall s L m s1
  cell:∀ n c,(n,c)∈cellsFrom (L+1) names []->s1.heap.IsCell c none/\L < c
  apart:(cellsFrom (L+1) names []).Pairwise fun x y=>x.2≠y.2
variable {f:Addr}
section
variable {M:Model} {A:Around} {E:Value->Shared->Prop} {s₀ s:Shared} {env:Env}
theorem a2H (f:Str×Value->PUnit->Sem (ForInStep PUnit)) (hf:∀ n v u,f (n,v) u=(do storeName env n v;pure (.yield ⟨⟩))) (hk:env.scope.kind = .function) :
    ∀ (binds:List (Str×Value)) (m:Str->Option Value) (s:Shared) (Q:PUnit->Shared->Prop),InX s₀ env.locals m env.scope.names s ->
      (∀ x∈binds,env.kindOf x.1=some .local)->(∀ s',InX s₀ env.locals (bindL env.kindOf binds m) env.scope.names s'->Q ⟨⟩ s')->wpAny M A (forIn binds ⟨⟩ f) Q E s
  | [],m,s,Q,x,_,h=>by rw [List.forIn_nil];exact aq (h s x)
  | (n,v) :: r,m,s,Q,x,hl,h=>by
    rw [qp,hf];have l:=hl (n,v) qj;refine aj (aj (wpAny_storeName_local l x.call.ns (fun h' hn' hs'=>aq (a2H f hf hk r _ _ Q ⟨⟨?_,hn',fun b o e=>?_,x.call.fresh⟩,fun k c hc=>?_,x.apart⟩ (fun y hy=>hl y (iw _ hy)) fun s'' x''=>h s'' ?_)) (by rw [hk];rfl)))
    . obtain ⟨h₁,tk,rfl⟩:=x.call.same;exact ⟨h',_,rfl⟩
    . exact hs'.extBut b o (dw (dg (cu e) x.call.fresh)) (x.call.keep b o e)
    . exact ⟨(x.cell k c hc).1.sameBut hs' (zm (x.cell k c hc).2),(x.cell k c hc).2⟩
    . unfold bindL;rw [if_pos l];exact x''
theorem afK {cl:List (Str×Addr)} {binds:List (Str×Value)} {code:Value} {Q:Env->Shared->Prop} (hk:scope.kind = .function) (hloc:∀ x∈binds,scope.names.lookup x.1=some .local)
    (hQ:∀ s',InX s s.heap.objs.size (bindL (fW qual scope s.heap.objs.size f code cl).kindOf binds fun _=>none) scope.names s'->Q (fW qual scope s.heap.objs.size f code cl) s') :
    wpAny M A (newFunctionEnv scope mainGlobals cl binds (qual ++ ".<locals>.") (some f) code none builtinsNs) Q E s:=by
  simp only [newFunctionEnv,Option.isSome_none,jh,if_false];refine aj (wpAny_alloc ?_);refine aj (wpAny_layCells _ (fun name kind cells=>by cases hkc:kind == NameKind.cell <;> simp [hkc]) _ _ _ _ ?_);have ok:=cellsFrom_ok scope.names (s.heap.push { cls := .type "frame",data := .dict #[] }) (s.heap.objs.size+1) [] ⟨fun _ _ hm=>(nomatch hm),List.Pairwise.nil⟩ (by rw [qm];exact bw _);rw [qm] at ok;rw [show ({ s with heap:=s.heap.push { cls := .type "frame",data := .dict #[] } }:Shared).heap.objs.size=s.heap.objs.size+1 from qm ..]
  refine aj (a2H (s₀:=s) (env:=fW qual scope s.heap.objs.size f code cl) _ (fun _ _ _=>rfl) hk binds (fun _=>none) _ _
    ⟨⟨⟨_,_,rfl⟩,(Heap.Ns.new s.heap (.type "frame")).keeps (pushCells_keeps _ _),fun b o e=>pushCells_keeps _ _ b o (ao _ e),bw _⟩,fun n c hm=>ok.empty n c hm,ok.apart⟩ hloc fun s' x=>aq (hQ s' x))
end
structure ScX (N ps:List Str) (x:Str) (sc:Scope):Prop where
  kind:sc.kind = .function
  co:sc.isCoroutine=false
  gen:sc.isGenerator=false
  nd:N.Nodup
  pre:N.take (ps.length+1)=x :: ps
  par:∀ y∈ps,sc.names.lookup y=some .local
  free:∀ y,sc.names.lookup y=some .free->y=x
  own:sc.names.lookup x=some .free
noncomputable def cxX (qt:Bool) (CX:CXT) (P:Program) (w:World) (K:bx) (mg:Str->Option Value) (base:Heap) (N:List Str) (qual:Str) (scope:Scope) (f:Addr) (cd:Value) (x:Str) (cc:Addr) (A:Around) (outer:List Env) (s:Shared) (H:Hp) (E:XK):Cx where
  prog:=P
  w:=w
  K:=K
  mg:=mg
  base:=base
  A:=A.deeper (fW qual scope s.heap.objs.size f cd [(x,cc)])
  N:=N
  s₀:=s
  H₀:=H
  env:=fW qual scope s.heap.objs.size f cd [(x,cc)]
  outer:=outer
  stack:=fW qual scope s.heap.objs.size f cd [(x,cc)] :: outer
  ex:=[]
  calm:=!qt
  fn:=fun y=>!(y == x)
  pn:=[]
  tp:=[]
  xe:=fun e s'=>wpAny (model P w) (A.deeper (fW qual scope s.heap.objs.size f cd [(x,cc)])) (leaving (fW qual scope s.heap.objs.size f cd [(x,cc)]) e) (fun _ s''=>CX outer H s E e s'') (fun e' s''=>CX outer H s E e' s'') s'
instance aGO {qt:Bool} {CX:CXT} {P:Program} {w:World} {K:bx} {mg:Str->Option Value} {base:Heap} {N:List Str} {qual:Str} {scope:Scope} {f:Addr} {cd:Value} {x:Str} {cc:Addr} {A:Around} {outer:List Env} {s s1:Shared} {H:Hp} {E:XK}:Tk (cxX qt CX P w K mg base N qual scope f cd x cc A outer s H E).need s1:=⟨fun z=>nomatch z⟩
theorem a4J {α:Type} {n:Str}:∀ {l m:List (Str×α)} {c:α},(l++m).lookup n=some c->(n,c)∈l∨m.lookup n=some c
  | [],_,_,h => .inr h
  | (k,v) :: r,m,c,h=>by
    rw [tu,jf] at h;cases hb:n == k with
    | true=>rw [hb] at h;cases h;rw [beq_iff_eq.mp hb];exact .inl (.head _)
    | false =>
      rw [hb] at h;rcases a4J h with z | z
      . exact .inl (.tail _ z)
      . exact .inr z
theorem vL:∀ {names:List (Str×NameKind)} {n:Nat} {acc:List (Str×Addr)} {y:Str} {c:Addr},(y,c)∈cellsFrom n names acc->(y,c)∈acc∨(y,NameKind.cell)∈names
  | [],_,_,_,_,h => .inl h
  | (name,kind) :: r,n,acc,y,c,h=>by
    unfold cellsFrom at h;split at h
    . rename_i hk;rcases vL h with z | z
      . rcases jq.mp z with z | z
        . cases z;exact .inr (by rw [beq_iff_eq.mp hk];exact .head _)
        . exact .inl z
      . exact .inr (.tail _ z)
    . rcases vL h with z | z
      . exact .inl z
      . exact .inr (.tail _ z)
theorem uO {α:Type} {n:Str}:∀ {l m:List (Str×α)},(∀ c,(n,c) ∉ l)->(l++m).lookup n=m.lookup n
  | [],_,_=>rfl
  | (k,v) :: r,m,h=>by
    rw [tu,jf];cases hb:n == k with
    | true=>exact absurd (by rw [beq_iff_eq.mp hb];exact .head _) (h v)
    | false=>exact uO fun c hc=>h c (.tail _ hc)
theorem vM {α:Type} {n:Str} {c:α}:∀ {l m:List (Str×α)},(l.lookup n=some c)->(l++m).lookup n=some c
  | (k,v) :: r,m,h=>by
    rw [tu,jf];rw [jf] at h;cases hb:n == k with
    | true=>rw [hb] at h;exact h
    | false=>rw [hb] at h;exact vM h
variable {E:XK}
theorem a4K {w:World} {K:bx} {cd:Value} {s1:Shared}
    (S:ScX N ps x scope) (rD:∀ y∈scope.names,y.1=x->y.2 ≠ .cell) (hd:qt=false->A.handled=none) (e0:vG P w K mg base A outer s H) (hl:vs.length=ps.length) (r:Vals vs us) (hc:s.heap.IsCell cc (some u)) (hH:H cc=none) (rv:RelV vv u)
    (y:InX s s.heap.objs.size (bindL (fW qual scope s.heap.objs.size f cd [(x,cc)]).kindOf (ps.zip us) fun _=>none) scope.names s1) :
    Inv (cxX qt CX P w K mg base N qual scope f cd x cc A outer s H E) [] (start N (vv :: vs)) H s1:=by
  have hpl:ps.length+1<=N.length:=by have:=congrArg List.length S.pre;rw [ou] at this;simp at this;omega
  obtain ⟨h1,tk,rfl,hk⟩:=y.call.done;have ccl:cc < s.heap.objs.size:=hc.lt;have noA:∀ b:Addr,b ∉ (cxX qt CX P w K mg base N qual scope f cd x cc A outer s H E).ex:=fun b z=>absurd (show b∈([]:List Addr) from z) (by simp);have cells:(cxX qt CX P w K mg base N qual scope f cd x cc A outer s H E).env.cells=cellsFrom (s.heap.objs.size+1) scope.names []++[(x,cc)]:=jZ _ _ _
  have split:∀ n c,(cxX qt CX P w K mg base N qual scope f cd x cc A outer s H E).env.cells.lookup n=some c->(n,c)∈cellsFrom (s.heap.objs.size+1) scope.names []∨(n=x/\c=cc):=fun n c h=>by
    rw [cells] at h;rcases a4J h with z | z
    . exact .inl z
    . rw [jf] at z;cases hb:n == x with
      | true=>rw [hb] at z;cases z;exact .inr ⟨beq_iff_eq.mp hb,rfl⟩
      | false=>rw [hb] at z;cases z
  have lx:(cxX qt CX P w K mg base N qual scope f cd x cc A outer s H E).env.cells.lookup x=some cc:=by
    rw [cells,uO fun c hm=>?_]
    . simp
    . rcases vL hm with z | z
      . cases z
      . exact rD _ z rfl rfl
  have lt:∀ n c,(n,c)∈cellsFrom (s.heap.objs.size+1) scope.names []->s.heap.objs.size < c:=fun n c h=>(y.cell n c h).2
  refine ⟨⟨e0.mod,S.kind,rfl,rfl,bw _,fun n z c h1 h2=>?_,fun n hy=>?_,fun n c fn h=>?_,fun z=>hd (by cases qt with | false=>rfl | true=>cases z),Around.frames_deeper e0.frames,.inr ⟨rfl,rfl⟩,fun b z=>absurd z (noA b),e0.bs,e0.bsz,fun b _ _=>noA b,fun b z=>absurd z (noA b),e0.mQ,e0.frf⟩,
    rfl,e0.bare,Un.kept hk,⟨_,y.call.ns,fun i n v h1 h2 h3=>?_⟩,fun n c h=>?_,e0.hok.fresh (bw _),fun n c h=>?_,fun p hp=>absurd (show p∈([]:List (Addr×Obj)) from hp) (by simp),e0.hok.kept hk,?_,e0.hnd,fun p hp=>absurd (show p∈([]:List (Addr×List V)) from hp) (by simp)⟩
  . rcases split n c h1 with a | ⟨a,a'⟩ <;> rcases split z c h2 with b | ⟨b,b'⟩
    . exact name_of_addr y.apart a b
    . exact absurd (lt _ _ a) (by rw [b'];exact Nat.not_lt.mpr (nj ccl))
    . exact absurd (lt _ _ b) (by rw [a'];exact Nat.not_lt.mpr (nj ccl))
    . rw [a,b]
  . have hy:scope.names.lookup n=some .cell∨scope.names.lookup n=some .free:=hy;rcases hy with hy | hy
    . obtain ⟨c,e⟩:=vH (n:=s.heap.objs.size+1) hy;exact ⟨c,by rw [cells];exact vM e⟩
    . rw [S.free n hy];exact ⟨cc,lx⟩
  . rcases split n c h with a | ⟨rfl,rfl⟩
    . exact nj (lt _ _ a)
    . have fn:(!(n == n))=true:=fn;simp at fn
  . unfold start at h2;cases i with
    | zero =>
      have e1:x=n:=by
        have:=congrArg (fun l=>l[0]?) S.pre;rw [xg (by omega)] at this;have h1:N[0]?=some n:=h1;rw [h1] at this;simp at this;exact this.symm
      subst e1;simp at h2;subst h2;obtain ⟨o,ho,hod⟩:=hc;exact ⟨u,rv,.inr ⟨.inr S.own,cc,lx,o,hk _ _ ho,hod⟩⟩
    | succ i =>
      have hi:i < vs.length:=by
        by_cases hi:i < vs.length
        . exact hi
        . rw [qd (by simp;omega)] at h2;rw [List.getElem?_replicate] at h2;split at h2 <;> cases h2
      have ha:vs[i]?=some v:=by
        rw [qu (by simp;omega),jo,List.getElem?_cons_succ] at h2;cases e:vs[i]? with
        | none=>rw [e] at h2;cases h2
        | some a=>rw [e] at h2;cases h2;rfl
      obtain ⟨uu,hu,rvv⟩:=r.get ha
      have hp:ps[i]?=some n:=by
        have:=congrArg (fun l=>l[i+1]?) S.pre;rw [xg (by omega)] at this;have h1:N[i+1]?=some n:=h1;rw [h1] at this;simpa using this.symm
      have ndP:ps.Nodup:=by
        have:(x :: ps).Nodup:=by rw [← S.pre];exact S.nd.sublist (List.take_sublist _ _)
        exact (uf.mp this).2
      have k:=S.par n (jk hp);exact ⟨uu,rvv,.inl ⟨k,a1N ndP hp hu k⟩⟩
  . rcases split n c h with a | ⟨rfl,rfl⟩
    . exact ⟨_,(y.cell n c a).1⟩
    . obtain ⟨o,ho,hod⟩:=hc;exact ⟨_,o,hk _ _ ho,hod⟩
  . rcases split n c h with a | ⟨rfl,rfl⟩
    . exact e0.hok.fresh (nj (lt _ _ a))
    . exact hH
  . unfold start;show _=N.length;rw [iz,au,List.length_replicate];simp;omega
noncomputable def yH (H:Hp) (a:Addr):Hp:=fun b=>if b=a then none else H b
theorem a05:yH H a a=none:=if_pos rfl
theorem nW (h:b≠a):yH H a b=H b:=if_neg h
theorem vN (h:H b=none):yH H a b=none:=by
  unfold yH;split
  . rfl
  . exact h
theorem qL.yH {w:World} {u:HO} (x:qL P w H h) (e:H a=some (.nQ o u)):qL P w (yH H a) h:=fun b v q=>by
  by_cases z:b=a
  . subst z;rw [a05] at q;cases q
  . rw [nW z] at q;exact (x b v q).stay (fun _ _ _ h=>h) (fun c hc=>by rw [nW (nR hc e (fun z=>by cases z))];exact hc) fun c xs hc=>by rw [nW (nR hc e (fun z=>by cases z))];exact hc
theorem ap5 {w:World} {K:bx} {k:Nat} (S:ScX N ps x scope) (rD:∀ y∈scope.names,y.1=x->y.2 ≠ .cell) {doc pm ctv:Value} {ob:Obj}
    (hr:cO qt (k+1) A) (e0:vG P w K mg base A outer s H) (hf:H f=some (vA (fnMade name qual params body scope [(x,cc)] doc pm c' ctv))) (rc:lK H c' qual) (hc:H cc=some (vA ob)) (hob:ob.data = .cell (some u)) (rv:RelV vv u) (hh:A.handled=none)
    (hb:BindsTo s (fnX name qual params body scope [(x,cc)] .none .none doc pm none (.ref c') ctv) args (ps.zip us)) (r:Vals vs us) (hl:vs.length=ps.length) (hCX:∀ e s',CX outer (yH H cc) s (fun _ _ _=>False) e s'->False)
    (hbody:cO qt k (A.deeper (fW qual scope s.heap.objs.size f (.ref c') [(x,cc)]))->∃ t,PSs (cxX qt CX P w K mg base N qual scope f (.ref c') x cc A outer s (yH H cc) (fun _ _ _=>False)) body t /\
      t { nx:=fun _ H'=>H' cc=none->Q .non (upd H' cc (vA ob)),rt:=fun v H'=>H' cc=none->Q v (upd H' cc (vA ob)) } (start N (vv :: vs)) (yH H cc)) :
    codeAny (model P w) A (.call (.ref f) args) (CR CX outer P w H s Q E) s:=by
  have of':s.heap.get? f=some (fnMade name qual params body scope [(x,cc)] doc pm c' ctv):=(e0.hok f _ hf).1;have oc':s.heap.get? cc=some ob:=(e0.hok cc _ hc).1;have lim:s.heap.NoLimit:=e0.mod.nolimit.keeps fun b o e=>(e0.bs b o e).1
  have hrec:s.heap.CodeRec (.ref c') qual:=by
    obtain ⟨oo,vs',t,e,d,q⟩:=rc;exact ⟨c',oo,vs',t,rfl,(e0.hok c' _ e).1,d,q⟩
  have ncc:cc ∉ frs outer:=fun z=>by have:=e0.frf cc z;rw [hc] at this;cases this
  have e1:vG P w K mg base A outer s (yH H cc):=⟨e0.frames,e0.mod,fun b o e=>⟨(e0.bs b o e).1,vN (e0.bs b o e).2⟩,e0.bsz,e0.mQ,fun b z=>vN (e0.frf b z),e0.hok.yH hc,e0.bare,.inl hh⟩;have hloc:∀ y∈ps.zip us,scope.names.lookup y.1=some .local:=fun ⟨n,v⟩ hy=>S.par n (ug hy).1;refine codeAny_call_function hr.depth of' rfl S.co S.gen rfl hrec (hb _ _ _ _ ?_);refine afK S.kind hloc fun s1 y=>?_;refine ⟨lim.keeps y.call.keep,codeAny_func ?_⟩;obtain ⟨t,ht,hq⟩:=hbody (hr.deeper _);have I:Inv (cxX qt CX P w K mg base N qual scope f (.ref c') x cc A outer s (yH H cc) (fun _ _ _=>False)) [] (start N (vv :: vs)) (yH H cc) s1:=a4K S rD hr.hd e1 hl r ⟨ob,oc',hob⟩ a05 rv y;refine wpAny_mono (ht [] s1 (start N (vv :: vs)) (yH H cc) _ I hq) (fun fl s' hs=>?_) fun e s' hs=>wpAny_mono hs (fun _ s'' z=>(hCX _ _ z).elim) fun e' s'' z=>(hCX _ _ z).elim
  have fin:∀ {σ':St} {H':Hp} {v:V} {uu:Value},Inv (cxX qt CX P w K mg base N qual scope f (.ref c') x cc A outer s (yH H cc) (fun _ _ _=>False)) [] σ' H' s'->RelV v uu->(H' cc=none->Q v (upd H' cc (vA ob)))->CE outer P w H s Q uu s':=fun {σ' H' v uu} J rv q=>by
    have b:=J.base;have n:H' cc=none:=b.free cc ob oc' a05 (by intro z;cases z);have o2:s'.heap.get? cc=some ob:=b.keep cc ob oc' a05 ncc (by intro z;cases z);have ne:∀ c,H c=none->c≠cc:=fun c m z=>by subst z;rw [hc] at m;cases m
    refine ⟨v,upd H' cc (vA ob),J.os,J.bare,⟨fun c o q m=>b.keep c o q (vN m),fun c o q m=>b.slot c o q (vN m),fun c o q m hx=>?_,b.there,fun c xs q0=>?_,fun c o w1 q0=>?_,fun c qs q0=>?_⟩,J.hok.adopt n o2,rv,q n⟩
    . rw [aJ (ne c m)];exact b.free c o q (vN m) hx
    . have z:=nR q0 hc (fun z=>by cases z);rw [aJ z];exact b.tups c xs (by rw [show (cxX qt CX P w K mg base N qual scope f (.ref c') x cc A outer s (yH H cc) (fun _ _ _=>False)).H₀=yH H cc from rfl,nW z];exact q0)
    . by_cases z:c=cc
      . subst z;rw [hc] at q0;cases q0;exact aF
      . rw [aJ z];exact b.dI c o w1 (by rw [show (cxX qt CX P w K mg base N qual scope f (.ref c') x cc A outer s (yH H cc) (fun _ _ _=>False)).H₀=yH H cc from rfl,nW z];exact q0)
    . have z:=nR q0 hc (fun z=>by cases z);obtain ⟨more,e⟩:=b.mL c qs (by rw [show (cxX qt CX P w K mg base N qual scope f (.ref c') x cc A outer s (yH H cc) (fun _ _ _=>False)).H₀=yH H cc from rfl,nW z];exact q0);exact ⟨more,by rw [aJ z];exact e⟩
  cases fl with
  | ret u =>
    obtain ⟨v,σ',H',J,rv,q⟩:=hs;exact fin J rv q
  | next =>
    obtain ⟨σ',H',J,q⟩:=hs;exact fin (v:=V.non) (uu:=Value.none) J rfl q
  | brk =>
    obtain ⟨_,_,_,q⟩:=hs;exact False.elim q
  | cont =>
    obtain ⟨_,_,_,q⟩:=hs;exact False.elim q
end
variable {h':Heap}
section
noncomputable abbrev NK:=List Int×Int
noncomputable def a4L (h:Heap) (k:NK) (a:Addr):Prop:=∃ o b t n,h.get? a=some o/\o.cls = .type "tuple" /\ o.data = .seq #[.ref b,.int k.2 t] n/\∀ (P:Program) (w:World),IsTupleKey (aL P w) h (k.1.map Sum.inl) b
theorem afL {x y:List Int} (h:x.map (Sum.inl:Int->Key)=y.map Sum.inl):x=y:=by
  induction x generalizing y with
  | nil=>cases y with
    | nil=>rfl
    | cons _ _=>cases h
  | cons a r ih=>cases y with
    | nil=>cases h
    | cons b q =>
      rw [iu,iu] at h;injection h with h1 h2;injection h1 with h1;rw [h1,ih h2]
theorem ak8 {P:Program} {w:World} {x y:NK} (hx:a4L h x a) (hy:a4L h y a):x=y:=by
  obtain ⟨o,b,t,n,e1,e2,e3,e4⟩:=hx;obtain ⟨o',b',t',n',g1,g2,g3,g4⟩:=hy;rw [e1] at g1;cases g1;rw [e3] at g3;simp only [Data.seq.injEq,Array.mk.injEq,List.cons.injEq,Value.ref.injEq,Value.int.injEq,and_true] at g3;obtain ⟨⟨rfl,h2,_⟩,_⟩:=g3;have:=afL ((e4 P w).inj (g4 P w));exact Prod.ext this h2
theorem ak9 {P:Program} {w:World} {k:NK} {d:Addr} {es ep} (x:a4L h k a) (ho:h.get? d=some o) (hd:o.data = .dict es ep) (hs:iy d h h'):a4L h' k a:=by
  obtain ⟨o',b,t,n,e1,e2,e3,e4⟩:=x
  have hne:a≠d:=by
    rintro rfl;rw [e1] at ho;cases ho;rw [hd] at e3;exact nomatch e3
  exact ⟨o',b,t,n,(hs.2 a hne).trans e1,e2,e3,fun P w=>(e4 P w).keeps ho hd hs⟩
variable {Q:Bool->Shared->Prop}
section
variable {prog:Program} {w:World} {A:Around} {E:Value->Shared->Prop} {s:Shared}
noncomputable def adO (prog:Program) (w:World) (k:NK):Int:=reduceHash (Builtin.Tuple.tupleHashOf [tupleKeyHash (aL prog w) (k.1.map Sum.inl),(aL prog w).hash (.inl k.2)])
theorem afM {k:NK} (x:a4L s.heap k a):s.TypeIs (.ref a) "tuple" := let ⟨o,_,_,_,ho,hc,_⟩:=x;⟨o,ho,hc⟩
theorem ai4 {k:NK} {Q:Int->Shared->Prop} (hu:A.units+8 < cLine) (hk:a4L s.heap k a) (h:Q (adO prog w k) { s with toks:=s.toks+(k.1.length+1+1+1) }) :
    wpAny (model prog w) A (pyHash (.ref a)) Q E s:=by
  have hT:=afM hk;obtain ⟨o,b,t,n,ho,hc,hd,hi⟩:=hk;unfold pyHash
  first | unfold pyHashByItsType | skip
  first | refine aj (wpAny_cRoomFor_or (.inr (by omega)) ?_) | skip
  refine aj (wpAny_specialOf hT PySem.F.slot_tuple_hash.lookup ?_);show wpAny _ _ (if (some (Value.builtin "tuple.__hash__") == some Value.none)=true then _ else _) Q E s;rw [if_neg (by rw [beq_builtin_none];exact jw)];refine aj (wpAny_specialOf hT PySem.F.slot_tuple_hash.lookup ?_);show wpAny _ _ (callSpecialIfBoundUnlessNone? (.ref a) "__hash__" _ >>= _) Q E s;refine aj (wpAny_callSpecialIfBoundUnlessNone?_slot hT PySem.F.slot_tuple_hash (wpAny_call_entry PySem.F.slot_tuple_hash hT PySem.F.entry_tuple_hash ?_ (PySem.F.args_tuple_hash_1 _)));show wpAny _ _ (Builtin.Tuple.tupleItemsOf (.ref a) >>= _) _ _ s;refine aj (wpAny_tupleItemsOf ho hd ?_);refine aj ?_;rw [← Array.forIn_toList];have hl:(k.1.map (Sum.inl:Int->Key)).length=k.1.length:=au ..
  refine wpAny_forIn_list _
    (fun rest (acc:Array Int) s'=>(rest=[Value.ref b,.int k.2 t]/\acc=#[]/\s'=s)∨(rest=[Value.int k.2 t]/\acc=#[tupleKeyHash (aL prog w) (k.1.map Sum.inl)]/\s'={ s with toks:=s.toks+(k.1.length+1) })∨(rest=[]/\acc=#[tupleKeyHash (aL prog w) (k.1.map Sum.inl),(aL prog w).hash (.inl k.2)]/\s'={ s with toks:=s.toks+(k.1.length+1+1) }))
    _ ?_ ?_ _ _ (.inl ⟨rfl,rfl,rfl⟩)
  . rintro x rest acc s' (⟨hr,rfl,rfl⟩ | ⟨hr,rfl,rfl⟩ | ⟨hr,_⟩)
    . injection hr with h1 h2;subst h1 h2;refine aj (wpAny_pyHash_tuple (knd:=aL prog w) (by show A.units+1 < cLine;omega) (hi prog w) ?_);rw [hl]
      first
        | exact aq (.inr (.inl ⟨rfl,rfl,rfl⟩))
        | exact aj (aq (aq (.inr (.inl ⟨rfl,rfl,rfl⟩))))
    . injection hr with h1 h2;subst h1 h2;refine aj ((aL prog w).pyHash (a2F prog w k.2 t) ?_)
      first
        | exact aq (.inr (.inr ⟨rfl,rfl,rfl⟩))
        | exact aj (aq (aq (.inr (.inr ⟨rfl,rfl,rfl⟩))))
    . cases hr
  . rintro acc s' (⟨hr,_⟩ | ⟨hr,_⟩ | ⟨_,rfl,rfl⟩)
    . cases hr
    . cases hr
    . show wpAny _ _ (retInt (Builtin.Tuple.tupleHashOf [tupleKeyHash (aL prog w) (k.1.map Sum.inl),(aL prog w).hash (.inl k.2)])) _ _ _;refine wpAny_ret_mkInt ?_;show wpAny _ _ (if (decide (-(2:Int) ^ 63<=Builtin.Tuple.tupleHashOf [tupleKeyHash (aL prog w) (k.1.map Sum.inl),(aL prog w).hash (.inl k.2)])&&decide (Builtin.Tuple.tupleHashOf [tupleKeyHash (aL prog w) (k.1.map Sum.inl),(aL prog w).hash (.inl k.2)] < 2 ^ 63))=true then _ else _) Q E _;unfold adO reduceHash at h;by_cases hr:(decide (-(2:Int) ^ 63<=Builtin.Tuple.tupleHashOf [tupleKeyHash (aL prog w) (k.1.map Sum.inl),(aL prog w).hash (.inl k.2)])&&decide (Builtin.Tuple.tupleHashOf [tupleKeyHash (aL prog w) (k.1.map Sum.inl),(aL prog w).hash (.inl k.2)] < 2 ^ 63))=true
      . rw [if_pos hr];rw [if_pos hr] at h;exact aq (by simpa [Nat.add_assoc] using h)
      . rw [if_neg hr];rw [if_neg hr] at h;exact aj (wpAny_rule (aq (by simpa [Nat.add_assoc] using h)))
theorem ap7 (P:Program) (w0:World) {x y:NK} (hu:A.units+8 < cLine) (hx:a4L s.heap x a) (hy:a4L s.heap y b):SeqAt.EqAt A s (.ref a) (.ref b) (decide (x=y)):=by
  by_cases hab:a=b
  . subst hab;have e:x=y:=ak8 (P:=P) (w:=w0) hx hy;subst e;rw [decide_eq_true rfl];exact SeqAt.EqAt.same _
  . obtain ⟨o,b1,t,n,e1,e2,e3,e4⟩:=hx;obtain ⟨o',b2,t',n',g1,g2,g3,g4⟩:=hy;refine SeqAt.EqAt.of_refs hab ?_
    have z:=SeqAt.RcAt.tuples (A:=A) (s:=s) (e:=fun j=>if j=0 then decide (x.1=y.1) else decide (x.2=y.2)) (show s.heap.IsTuple a #[.ref b1,.int x.2 t] from ⟨o,e1,e2,n,e3⟩) (show s.heap.IsTuple b #[.ref b2,.int y.2 t'] from ⟨o',g1,g2,n',g3⟩) (by omega) (fun j h1 h2=>by
      match j,h1,h2 with
      | 0,_,_ =>
        rw [if_pos rfl];intro prog' w' E' Q' hq
        have e:decide (x.1.map (Sum.inl:Int->Key)=y.1.map Sum.inl)=decide (x.1=y.1):=by
          rw [decide_eq_decide];exact ⟨afL,fun z=>by rw [z]⟩
        exact wpAny_eqBool_tuple (knd:=aL prog' w') (by show A.units+1 < cLine;omega) (e4 prog' w') (g4 prog' w') (by rw [e];exact hq)
      | 1,_,_ =>
        rw [if_neg (by decide)];intro prog' w' E' Q' hq
        exact wpAny_eqBool_int (by
          have e:(x.2 == y.2)=decide (x.2=y.2):=rfl
          first
            | exact hq
            | (rw [e];exact hq))
      | j+2,h1,_=>exact absurd h1 (by simp))
    have e:((gk (min (#[Value.ref b1,.int x.2 t]:Array Value).size (#[Value.ref b2,.int y.2 t']:Array Value).size)).all (fun j=>if j=0 then decide (x.1=y.1) else decide (x.2=y.2))&&(#[Value.ref b1,.int x.2 t]:Array Value).size == (#[Value.ref b2,.int y.2 t']:Array Value).size)=decide (x=y):=by
      show ((gk 2).all _&&true)=_;rw [show gk 2=[0,1] from rfl];simp only [mq,List.all_nil,Bool.and_true,if_true,Nat.one_ne_zero,if_false];rw [wg,ak,decide_eq_true_eq,decide_eq_true_eq,decide_eq_true_eq];exact ⟨fun z=>Prod.ext z.1 z.2,fun z=>by rw [z];exact ⟨rfl,rfl⟩⟩
    rw [e] at z;exact z
theorem adP {m:Nat} {ks:List Key} (hk:IsTupleKey (aL prog w) s.heap ks a) (h:Q true s):wpAny (model prog w) A (eqIsQuiet (m+1) (.ref a)) Q E s:=by
  have hT:=hk.typeIs;obtain ⟨o,items,n,ho,_,hd,hi⟩:=hk;unfold eqIsQuiet;refine aj (wpAny_specialOf hT PySem.F.slot_tuple_eq.lookup ?_);show wpAny _ _ (isInstance (.ref a) (.type "tuple") >>= _) _ _ s;refine aj (wpAny_isInstance hT isSubtype_tuple_tuple ?_);simp only [yq,jh,if_false];refine aj (wpAny_seqItems ho hd ?_);refine aj ?_;show wpAny _ _ (forIn items _ _) _ _ s;rw [← Array.forIn_toList];refine wpAny_forIn_list _ (fun rest r s'=>r.1=none/\s'=s/\∀ v∈rest,carriedByValue v=true) _ ?_ ?_ _ _ ⟨rfl,rfl,hi.byValue⟩
  . rintro v rest r s' ⟨hr,rfl,hall⟩;rw [eqIsQuiet_byValue _ (hall v qj)];refine aj (aq ?_);simp only [yq,jh,if_false];exact aq ⟨rfl,rfl,fun u hu'=>hall u (iw _ hu')⟩
  . rintro ⟨r1,r2⟩ s' ⟨hr,rfl,_⟩;simp only at hr;subst hr;exact aq h
theorem akA {k:NK} (hk:a4L s.heap k a) (h:Q true s):wpAny (model prog w) A (eqIsQuiet 8 (.ref a)) Q E s:=by
  have hT:=afM hk;obtain ⟨o,b,t,n,ho,_,hd,hi⟩:=hk;unfold eqIsQuiet;refine aj (wpAny_specialOf hT PySem.F.slot_tuple_eq.lookup ?_);show wpAny _ _ (isInstance (.ref a) (.type "tuple") >>= _) _ _ s;refine aj (wpAny_isInstance hT isSubtype_tuple_tuple ?_);simp only [yq,jh,if_false];refine aj (wpAny_seqItems ho hd ?_);refine aj ?_;rw [← Array.forIn_toList];refine wpAny_forIn_list _ (fun rest r s'=>r.1=none/\s'=s/\∀ v∈rest,v = .ref b∨v = .int k.2 t) _ ?_ ?_ _ _ ⟨rfl,rfl,fun v hv=>by simpa using hv⟩
  . rintro v rest r s' ⟨hr,rfl,hall⟩;rcases hall v qj with rfl | rfl
    . refine aj (adP (m:=6) (hi prog w) ?_);simp only [yq,jh,if_false];exact aq ⟨rfl,rfl,fun u hu'=>hall u (iw _ hu')⟩
    . rw [eqIsQuiet_byValue _ rfl];refine aj (aq ?_);simp only [yq,jh,if_false];exact aq ⟨rfl,rfl,fun u hu'=>hall u (iw _ hu')⟩
  . rintro ⟨r1,r2⟩ s' ⟨hr,rfl,_⟩;simp only at hr;subst hr;exact aq h
end
noncomputable def zA (prog:Program) (w:World):HeapKind prog w NK where
  is:=a4L
  hash:=adO prog w
  draws:=fun k=>k.1.length+1+1+1
  room:=fun A=>A.units+8 < cLine
  inj:=fun hx hy=>ak8 (P:=prog) (w:=w) hx hy
  keeps:=fun x ho hd hs=>ak9 (P:=prog) (w:=w) x ho hd hs
  pyHash:=fun hu hk h=>ai4 hu hk h
  eqBool:=fun hu hx hy h=>ap7 prog w hu hx hy prog w _ _ h
  quiet:=fun hk h=>akA hk h
end
section
open PySem.W
variable {body:Expr}
section
variable {X:Cx} {pins:List (Addr×Obj)} {σ:List (Option V)} {H:Hp} {s:Shared}
theorem avT {Q:Value->Shared->Prop} {c T:Addr} {ps:Array Value} (I:Inv X pins σ H s) (hT:H T=some (.vB ps)) (st:rB H qual pos ps) (C:CodeHd X.base c T) (hb:X.base.BuiltinsAt X.mg T) (hcode:X.env.code = .ref c) (hcl:closureFor scope X.env=pure clos)
    (h:∀ f c' ctv ps' H' s',Inv X pins σ H' s'->H f=none->H' f=some (vA (kla_obj name qual params body scope clos ((X.mg "__name__").getD .none) c' ctv))->lK H' c' qual->H' T=some (.vB ps')->rB H' qual pos ps'->(∀ b u,b≠T->H b=some u->H' b=some u)->Q (.ref f) s') :
    wpAny (model X.prog X.w) A (makeFunction name qual params (.expr body) scope X.env [] [] [] pos firstLine) Q E s:=by
  have hP:s.heap.get? T=some (tabObj ps):=I.hok T _ hT;have hg:s.heap.Ns mainGlobals X.mg:=I.mod.glob.keeps I.bk;have hC:CodeHd s.heap c T:=C.keeps I.bk
  have hgT:mainGlobals≠T:=fun z=>by
    obtain ⟨o,es,ep,q,d,_⟩:=hg;rw [z,hP] at q;cases q;cases d
  have hbs:s.heap.BuiltinsAt X.mg T:=by
    obtain ⟨bm,o,b1,b2,b3,b4,b5,b6⟩:=hb;exact ⟨bm,o,b1,b2,b3,b4,I.bk _ _ b5,b6⟩
  rcases id st with st0 | ⟨c',e,rec⟩
  . subst st0;refine kla_makeFunction (mg:=X.mg) hcl I.ok.glob hg hcode hC hP trivial rfl hgT hbs fun c' ctv h' tk hx hge hlt hrec htb=>?_;obtain ⟨c₂,oc,vs,t,e2,hoc,hd,hv⟩:=hrec;cases e2;have I1:=I.grow (t':=s.toks) (c':=c') hT (fun b u n q=>hx b u n q) htb hge hoc;have fr:H c'=none:=I.hok.fresh hge;have tc:T≠c':=aR hT fr;have ff:H h'.objs.size=none:=I.hok.fresh (jd hge (nj hlt));have I2:=I1.laid (t':=tk) (o:=vA (kla_obj name qual params body scope clos ((X.mg "__name__").getD .none) c' ctv)) (fun b u q=>ao _ q) (bw _) (rC (dj _ rfl));have n1:c'≠h'.objs.size:=dw hlt;have n2:T≠h'.objs.size:=aR hT ff;have rc:lK (upd (upd (upd H T (.vB (#[]++#[rawInt pos.line,rawInt pos.col,.ref c']))) c' (vA oc)) h'.objs.size (vA (kla_obj name qual params body scope clos ((X.mg "__name__").getD .none) c' ctv))) c' qual:=⟨oc,vs,t,by rw [aJ n1,aF],hd,hv⟩;refine h h'.objs.size c' ctv _ _ _ I2 ff aF rc (by rw [aJ n2,aJ tc,aF]) (.inr ⟨c',by simp,rc⟩) fun b u hb q=>?_;rw [aJ (aR q ff),aJ (aR q fr),aJ hb];exact q
  . subst e;have hf:codeAmong pos (#[rawInt pos.line,rawInt pos.col,Value.ref c']:Array Value).toList=some (.ref c'):=by simp [codeAmong,rawInt]
    refine kla_makeFunctionHit (mg:=X.mg) hcl I.ok.glob hg hcode hC hP trivial hf hbs fun ctv h' tk hk hsz=>?_;have ff:H h'.objs.size=none:=I.hok.fresh hsz;have I1:=I.kept (t':=s.toks) hk;have I2:=I1.laid (t':=tk) (o:=vA (kla_obj name qual params body scope clos ((X.mg "__name__").getD .none) c' ctv)) (fun b u q=>ao _ q) (bw _) (rC (dj _ rfl));have kf:∀ b u,H b=some u->upd H h'.objs.size (vA (kla_obj name qual params body scope clos ((X.mg "__name__").getD .none) c' ctv)) b=some u:=fun b u q=>by rw [aJ (aR q ff)];exact q
    exact h h'.objs.size c' ctv _ _ _ I2 ff aF (rec.keep fun a o u q=>kf a _ q) (kf _ _ hT) (.inr ⟨c',rfl,rec.keep fun a o u q=>kf a _ q⟩) fun b u _ q=>kf b u q
end
theorem ap8 {w:World} {K:bx} {k:Nat} (S:ScX N ps x scope) (rD:∀ y∈scope.names,y.1=x->y.2 ≠ .cell) {E:XK} {f:Addr} {pm ctv:Value}
    (hr:cO qt (k+1) A) (e0:vG P w K mg base A outer s H) (hf:H f=some (vA (kla_obj name qual params body scope [(x,cc)] pm c' ctv))) (rc:lK H c' qual) (hc:s.heap.IsCell cc (some u)) (hH:H cc=none) (rv:RelV vv u)
    (hb:bindArgs (kla_fn name qual params body scope [(x,cc)] pm (.ref c') ctv) args=pure (ps.zip us)) (r:Vals vs us) (hl:vs.length=ps.length) (hCX:∀ e s',CX outer H s (fun _ _ _=>False) e s'->False)
    (hbody:cO qt k (A.deeper (fW qual scope s.heap.objs.size f (.ref c') [(x,cc)]))->∃ t,PE (cxX qt CX P w K mg base N qual scope f (.ref c') x cc A outer s H (fun _ _ _=>False)) body t/\t (start N (vv :: vs)) H Q) :
    codeAny (model P w) A (.call (.ref f) args) (CR CX outer P w H s Q E) s:=by
  have of':s.heap.get? f=some (kla_obj name qual params body scope [(x,cc)] pm c' ctv):=(e0.hok f _ hf).1;have lim:s.heap.NoLimit:=e0.mod.nolimit.keeps fun b o e=>(e0.bs b o e).1
  have hrec:s.heap.CodeRec (.ref c') qual:=by
    obtain ⟨oo,vs',t,e,d,q⟩:=rc;exact ⟨c',oo,vs',t,rfl,(e0.hok c' _ e).1,d,q⟩
  have hloc:∀ y∈ps.zip us,scope.names.lookup y.1=some .local:=fun ⟨n,v⟩ hy=>S.par n (ug hy).1;refine kla_callFunE hr.depth of' rfl S.co S.gen rfl hrec ?_;rw [hb];refine aq (afK S.kind hloc fun s1 y=>⟨lim.keeps y.call.keep,kla_codeExpr ?_⟩);obtain ⟨t,ht,hq⟩:=hbody (hr.deeper _);have I:Inv (cxX qt CX P w K mg base N qual scope f (.ref c') x cc A outer s H (fun _ _ _=>False)) [] (start N (vv :: vs)) H s1:=a4K S rD hr.hd e0 hl r hc hH rv y;exact wpAny_mono (ht [] s1 (start N (vv :: vs)) H _ I hq) (fun u' s' ⟨v,H',J,rv',q⟩=>⟨v,H',J.os,J.bare,J.base,J.hok,rv',q⟩) fun e s' hs=>wpAny_mono hs (fun _ s'' z=>(hCX _ _ z).elim) fun e' s'' z=>(hCX _ _ z).elim
end
variable {c e:Expr}{p:Addr}{pins:List (Addr×Obj)}{i:Nat}{v:V}{n:String}{r:R2}{op op':CmpOp}
section
inductive D where
  | non | bl (b:Bool) | int (i:Int) | str (x:Str) | tup (xs:List D) | ref (a:Addr) | ty (n:String)
noncomputable abbrev Fg:=bx
noncomputable abbrev ab4 (H:Hp) (a:Addr) (xs:List V):Prop:=True
theorem ap9 (h:H a=some (.tup xs)):ab4 H a xs:=trivial
mutual
inductive RD (K:Fg) (H:Hp):D->V->Prop where
  | non:RD K H .non .non
  | bl (b:Bool):RD K H (.bl b) (.bl b)
  | int (i:Int):RD K H (.int i) (.int i)
  | str (x:Str):RD K H (.str x) (.str x)
  | ty (n:String):RD K H (.ty n) (.ty n)
  | ref (a:Addr):RD K H (.ref a) (.ref a)
  | tup {a:Addr} {xs:List V} {ds:List D}:uL K H a xs->bR K H ds xs->ab4 H a xs->RD K H (.tup ds) (.ref a)
inductive bR (K:Fg) (H:Hp):List D->List V->Prop where
  | nil:bR K H [] []
  | cons {d:D} {v:V} {ds:List D} {vs:List V}:RD K H d v->bR K H ds vs->bR K H (d :: ds) (v :: vs)
end
structure Ts (H H':Hp):Prop where
  tups:∀ a xs,H a=some (.tup xs)->H' a=some (.tup xs)
  dI:∀ a o u,H a=some (.nQ o u)->H' a=some (.nQ o u)
theorem Ts.refl (H:Hp):Ts H H:=⟨fun _ _ h=>h,fun _ _ _ h=>h⟩
theorem Ts.trans {H1 H2:Hp} (a:Ts H H1) (b:Ts H1 H2):Ts H H2:=⟨fun c xs h=>b.tups c xs (a.tups c xs h),fun c o u h=>b.dI c o u (a.dI c o u h)⟩
theorem Ts.same (s:Same H H'):Ts H H':=⟨fun a _ h=>s a _ h,fun a _ _ h=>s a _ h⟩
theorem Ts.rd (t:Ts H H') (h:Rd H a (.tup xs)):Rd H' a (.tup xs):=by
  rcases h with h | ⟨o,h⟩
  . exact .inl (t.tups _ _ h)
  . exact .inr ⟨o,t.dI _ _ _ h⟩
theorem Ts.sqT {K:Fg} (t:Ts H H') (h:uL K H a xs):uL K H' a xs:=h.elim (fun q => .inl (t.rd q)) .inr
theorem ab4.mono (t:Ts H H') (h:ab4 H a xs):ab4 H' a xs:=trivial
variable {o:HO}
theorem bH (h:H p=none):Same H (upd H p o):=fun b u e=>by
  rw [aJ (aR e h)];exact e
mutual
theorem RD.mono {K:Fg} {H H':Hp} (t:Ts H H'):∀ {d:D} {v:V},RD K H d v->RD K H' d v
  | _,_,.non => .non
  | _,_,.bl b => .bl b
  | _,_,.int i => .int i
  | _,_,.str x => .str x
  | _,_,.ty n => .ty n
  | _,_,.ref a => .ref a
  | _,_,.tup h r e => .tup (t.sqT h) (bR.mono t r) (e.mono t)
theorem bR.mono {K:Fg} {H H':Hp} (t:Ts H H'):∀ {ds:List D} {vs:List V},bR K H ds vs->bR K H' ds vs
  | _,_,.nil => .nil
  | _,_,.cons h r => .cons (RD.mono t h) (bR.mono t r)
end
section
variable {K:Fg} {H:Hp}
theorem bR.length:∀ {ds:List D} {vs:List V},bR K H ds vs->ds.length=vs.length
  | _,_,.nil=>rfl
  | _,_,.cons _ r=>congrArg (·+1) (bR.length r)
theorem bR.append:∀ {ds:List D} {vs:List V} {es:List D} {ws:List V},bR K H ds vs->bR K H es ws->bR K H (ds++es) (vs++ws)
  | _,_,_,_,.nil,s=>s
  | _,_,_,_,.cons h r,s => .cons h (bR.append r s)
theorem bR.get:∀ {ds:List D} {vs:List V} {i:Nat} {d:D},bR K H ds vs->ds[i]?=some d->∃ v,vs[i]?=some v/\RD K H d v
  | _,_,_,_,.nil,e=>by simp at e
  | _,_,0,_,.cons r _,e=>by simp at e;subst e;exact ⟨_,rfl,r⟩
  | _,_,i+1,d,.cons _ t,e=>by
    obtain ⟨u,h1,h2⟩:=bR.get (i:=i) (d:=d) t (by simpa using e);exact ⟨u,by simpa using h1,h2⟩
theorem bR.apA:∀ {ds:List D} {vs:List V} {i:Nat} {v:V},bR K H ds vs->vs[i]?=some v->∃ d,ds[i]?=some d/\RD K H d v
  | _,_,_,_,.nil,e=>by simp at e
  | _,_,0,_,.cons r _,e=>by simp at e;subst e;exact ⟨_,rfl,r⟩
  | _,_,i+1,d,.cons _ t,e=>by
    obtain ⟨u,h1,h2⟩:=bR.apA (i:=i) (v:=d) t (by simpa using e);exact ⟨u,by simpa using h1,h2⟩
theorem bR.set {d:D} {v:V} (r:RD K H d v):∀ {ds:List D} {vs:List V} (i:Nat),bR K H ds vs->bR K H (ds.set i d) (vs.set i v)
  | _,_,_,.nil => .nil
  | _,_,0,.cons _ t => .cons r t
  | _,_,i+1,.cons q t => .cons q (bR.set r i t)
theorem bR.drop:∀ {ds:List D} {vs:List V} (n:Nat),bR K H ds vs->bR K H (ds.drop n) (vs.drop n)
  | _,_,0,r=>r
  | _,_,_+1,.nil => .nil
  | _,_,n+1,.cons _ t=>bR.drop n t
theorem bR.take:∀ {ds:List D} {vs:List V} (n:Nat),bR K H ds vs->bR K H (ds.take n) (vs.take n)
  | _,_,0,_ => .nil
  | _,_,_+1,.nil => .nil
  | _,_,n+1,.cons r t => .cons r (bR.take n t)
theorem bR.ints (ns:List Int):bR K H (ns.map D.int) (ns.map V.int):=by
  induction ns with
  | nil=>exact .nil
  | cons n r ih=>exact .cons (.int n) ih
theorem bR.a03 {ds:List D} (r:bR K H ds vs):vs=[]↔ds=[]:=by
  cases r <;> simp
end
noncomputable abbrev DK:=Key ⊕ List Key
structure a06 where
  name:Str
  qual:Str
  params:Arguments
  body:List Stmt
  scope:Scope
  x:Str
inductive GO where
  | lst (ds:List D) | rol (ds:List D) | lX (t:Bool) (kvs:List (DK×D)) | ins (C:Addr) (fs:List (Str×D)) | exn (C:Addr) | rdc (o:Obj) (t:Bool) (kvs:List (DK×D)) | tpl (ds:List D) | kst (ks:List (List Int)) | nst (ks:List NK) | tab (q:Str) (p:Pos) | clo (c:a06) (d:D)
noncomputable abbrev Gp:=Addr->Option GO
noncomputable def aM (G:Gp) (a:Addr) (o:GO):Gp:=fun b=>if b=a then some o else G b
variable {G:Gp}
theorem aD {o:GO}:aM G a o a=some o:=by unfold aM;rw [if_pos rfl]
theorem aX {o:GO} (h:b≠a):aM G a o b=G b:=by unfold aM;rw [if_neg h]
theorem bK {o u:GO} (h:G b=some u) (n:G a=none):aM G a o b=some u:=by
  rw [aX];exact h;intro e;subst e;rw [h] at n;cases n
noncomputable def Le (G G':Gp):Prop:=∀ a o,G a=some o->G' a=some o
theorem Le.refl (G:Gp):Le G G:=fun _ _ h=>h
theorem Le.trans {G1 G2:Gp} (a:Le G G1) (b:Le G1 G2):Le G G2:=fun c o h=>b c o (a c o h)
theorem Le.new {o:GO} (n:G a=none):Le G (aM G a o):=fun _ _ h=>bK h n
variable {G':Gp}
theorem Le.free (l:Le G G') (h:G' a=none):G a=none:=by
  cases q:G a with
  | none=>rfl
  | some o=>have:=l a o q;rw [h] at this;cases this
noncomputable def kD:Key->D
  | .inl i => .int i
  | .inr x => .str x
noncomputable def dkD:DK->D
  | .inl k=>kD k
  | .inr ks => .tup (ks.map kD)
inductive Two {α β:Type} (P:α->β->Prop):List α->List β->Prop where
  | nil:Two P [] []
  | cons {a:α} {b:β} {as:List α} {bs:List β}:P a b->Two P as bs->Two P (a :: as) (b :: bs)
theorem Two.imp {α β:Type} {P Q:α->β->Prop} (f:∀ a b,P a b->Q a b):∀ {as:List α} {bs:List β},Two P as bs->Two Q as bs
  | _,_,.nil => .nil
  | _,_,.cons h r => .cons (f _ _ h) (Two.imp f r)
theorem Two.length {α β:Type} {P:α->β->Prop}:∀ {as:List α} {bs:List β},Two P as bs->as.length=bs.length
  | _,_,.nil=>rfl
  | _,_,.cons _ r=>congrArg (·+1) (Two.length r)
noncomputable def yM (C a:Addr) (h:Heap):Prop:=∃ o vs,h.get? a=some o/\o.cls = .ref C/\o.data = .fields vs
noncomputable def toI (ks:List Key):List Int:=ks.map fun k=>match k with
  | .inl i=>i
  | .inr _=>0
theorem apB (ns:List Int):toI (ns.map Sum.inl)=ns:=by
  unfold toI;rw [jm];exact List.map_id _
noncomputable def aGP (P:Program) (w:World) (a:Addr) (xs:List (List Key×Addr×Value)) (h:Heap):Prop:=(a == sysModules)=false/\∃ o es ep,h.get? a=some o/\o.ExactDict/\o.data = .dict es ep/\es.toList=xs.map (entryOfKey (tupleKind (aL P w)))/\(xs.map (·.1)).Nodup
noncomputable def avW (P:Program) (w:World) (a:Addr) (xs:List (NK×Addr×Value)) (h:Heap):Prop:=(a == sysModules)=false/\∃ o es ep,h.get? a=some o/\o.ExactDict/\o.data = .dict es ep/\es.toList=xs.map (entryOfKey (zA P w))/\(xs.map (·.1)).Nodup
noncomputable def NSq (K:Fg) (H:Hp) (k:NK) (a:Addr):Prop:=∃ b,uL K H a [.ref b,.int k.2]/\uL K H b (k.1.map V.int)
noncomputable def OR (K:Fg) (H:Hp) (a:Addr):GO->Prop
  | .lst ds=>∃ xs,H a=some (.lst xs)/\bR K H ds xs
  | .rol ds=>∃ xs,yG K H a xs/\bR K H ds xs
  | .lX t kvs=>(t=false/\∃ xs:List (Key×V),H a=some (.dK xs)/\Two (fun p q=>p.1 = .inl q.1/\RD K H p.2 q.2) kvs xs) ∨
      (t=true/\∃ xs:List (List Key×V),H a=some (.dT xs)/\Two (fun p q=>p.1 = .inr q.1/\RD K H p.2 q.2) kvs xs)
  | .ins C fs=>∃ (dx:Addr) (vs:List (Str×V)),H a=some (.ins C dx vs)/\Two (fun p q=>p.1=q.1/\RD K H p.2 q.2) fs vs
  | .rdc o t kvs=>(t=false/\∃ xs:List (Key×V),H a=some (.nQ o (.dK xs))/\Two (fun p q=>p.1 = .inl q.1/\RD K H p.2 q.2) kvs xs) ∨
      (t=true/\∃ xs:List (List Key×V),H a=some (.nQ o (.dT xs))/\Two (fun p q=>p.1 = .inr q.1/\RD K H p.2 q.2) kvs xs)
  | .tpl ds=>∃ xs,uL K H a xs/\bR K H ds xs
  | .tab q p=>∃ ps,H a=some (.vB ps)/\rB H q p ps
  | .clo c d=>∃ (cc c':Addr) (doc pm ctv:Value) (ob:Obj) (u:Value) (v:V),H a=some (vA (PySem.W.fnMade c.name c.qual c.params c.body c.scope [(c.x,cc)] doc pm c' ctv))/\lK H c' c.qual/\H cc=some (vA ob)/\ob.data = .cell (some u)/\RelV v u/\RD K H d v
  | .nst ks=>∃ (P:Program) (w:World) (xs:List (NK×Addr×Value)),H a=some (.ext (avW P w a xs))/\xs.map (·.1)=ks/\∀ x∈xs,NSq K H x.1 x.2.1
  | .kst ks=>∃ (P:Program) (w:World) (xs:List (List Key×Addr×Value)),H a=some (.ext (aGP P w a xs))/\(xs.map fun x=>toI x.1)=ks/\∀ x∈xs,x.1=(toI x.1).map Sum.inl/\uL K H x.2.1 (x.1.map kV)
  | .exn C=>∃ o vs,H a=some (.nQ o (.ext (yM C a)))/\o.data = .fields vs/\vs[2]?=some .none
noncomputable def HR (K:Fg) (H:Hp) (G:Gp):Prop:=∀ a o,G a=some o->OR K H a o
theorem OR.keep {K:Fg} {H H':Hp} {a:Addr} {o:GO} (t:Ts H H') (h:OR K H a o) (k:∀ u,H a=some u->H' a=some u):OR K H' a o:=by
  cases o with
  | lst ds=>obtain ⟨xs,e,r⟩:=h;exact ⟨xs,k _ e,r.mono t⟩
  | rol ds =>
    obtain ⟨xs,e,r⟩:=h;refine ⟨xs,?_,r.mono t⟩;rcases e with (e | ⟨o,e⟩) | e
    . exact .inl (.inl (k _ e))
    . exact .inl (.inr ⟨o,k _ e⟩)
    . exact .inr e
  | lX b kvs =>
    rcases h with ⟨z,xs,e,r⟩ | ⟨z,xs,e,r⟩
    . exact .inl ⟨z,xs,k _ e,r.imp fun _ _ q=>⟨q.1,q.2.mono t⟩⟩
    . exact .inr ⟨z,xs,k _ e,r.imp fun _ _ q=>⟨q.1,q.2.mono t⟩⟩
  | ins C fs=>obtain ⟨dx,vs,e,r⟩:=h;exact ⟨dx,vs,k _ e,r.imp fun _ _ q=>⟨q.1,q.2.mono t⟩⟩
  | rdc ob b kvs =>
    rcases h with ⟨z,xs,e,r⟩ | ⟨z,xs,e,r⟩
    . exact .inl ⟨z,xs,k _ e,r.imp fun _ _ q=>⟨q.1,q.2.mono t⟩⟩
    . exact .inr ⟨z,xs,k _ e,r.imp fun _ _ q=>⟨q.1,q.2.mono t⟩⟩
  | exn C=>obtain ⟨o,vs,e,r⟩:=h;exact ⟨o,vs,k _ e,r⟩
  | tpl ds=>obtain ⟨xs,e,r⟩:=h;exact ⟨xs,t.sqT e,r.mono t⟩
  | kst ks=>obtain ⟨P,w,xs,e,r,q⟩:=h;exact ⟨P,w,xs,k _ e,r,fun x hx=>⟨(q x hx).1,t.sqT (q x hx).2⟩⟩
  | nst ks=>obtain ⟨P,w,xs,e,r,q⟩:=h;exact ⟨P,w,xs,k _ e,r,fun x hx=>(q x hx).elim fun b z=>⟨b,t.sqT z.1,t.sqT z.2⟩⟩
  | tab q p=>obtain ⟨ps,e,r⟩:=h;exact ⟨ps,k _ e,r.keep fun a o φ=>t.dI a o _⟩
  | clo c d=>obtain ⟨cc,c',doc,pm,ctv,ob,u,v,e1,e2,e3,e4,e5,e6⟩:=h;exact ⟨cc,c',doc,pm,ctv,ob,u,v,k _ e1,e2.keep fun a o φ=>t.dI a o _,t.dI _ _ _ e3,e4,e5,e6.mono t⟩
theorem HR.same {K:Fg} {H H':Hp} {G:Gp} (h:HR K H G) (s:Same H H'):HR K H' G:=fun a o e=>(h a o e).keep (.same s) fun u q=>s a u q
theorem HR.le {K:Fg} (h:HR K H G') (l:Le G G'):HR K H G:=fun a o e=>h a o (l a o e)
theorem HR.put {K:Fg} {u:GO} (h:HR K H G) (n:H p=none) (new:OR K (upd H p o) p u):HR K (upd H p o) (aM G p u):=fun a v e=>by
  by_cases q:a=p
  . subst q;rw [aD] at e;cases e;exact new
  . rw [aX q] at e;exact (h a v e).keep (.same (bH n)) fun w z=>bH n a w z
theorem HR.turn {K:Fg} {u:GO} (h:HR K H G) (t:Ts H (upd H p o)) (new:OR K (upd H p o) p u):HR K (upd H p o) (aM G p u):=fun a v e=>by
  by_cases q:a=p
  . subst q;rw [aD] at e;cases e;exact new
  . rw [aX q] at e;exact (h a v e).keep t fun w z=>by rw [aJ q];exact z
theorem Ts.turn {u:HO} (e:H p=some u) (h1:∀ xs,u ≠ .tup xs) (h2:∀ ob w,u ≠ .nQ ob w):Ts H (upd H p o):=by
  refine ⟨fun a xs q=>?_,fun a ob w q=>?_⟩
  . rw [aJ];exact q;intro z;subst z;rw [e] at q;exact h1 xs (gw.inj q)
  . rw [aJ];exact q;intro z;subst z;rw [e] at q;exact h2 ob w (gw.inj q)
noncomputable abbrev aP:=List (Option D)
noncomputable abbrev fM:=D->Gp->Prop
noncomputable abbrev cF:=aP->Gp->fM->Prop
noncomputable abbrev xK:=aP->Gp->(Bool->Gp->Prop)->Prop
noncomputable abbrev pL:=aP->Gp->(List D->Gp->Prop)->Prop
noncomputable def at3:aP->Nat->Option D
  | [],_=>none
  | x :: _,0=>x
  | _ :: r,n+1=>at3 r n
noncomputable def sH:aP->Nat->D->aP
  | [],_,_=>[]
  | _ :: r,0,d=>some d :: r
  | x :: r,n+1,d=>x :: sH r n d
inductive SR (K:Fg) (H:Hp):aP->St->Prop where
  | nil:SR K H [] []
  | none {ρ:aP} {σ:St} {v:Option V}:SR K H ρ σ->SR K H (vd :: ρ) (v :: σ)
  | some {ρ:aP} {σ:St} {d:D} {v:V}:RD K H d v->SR K H ρ σ->SR K H (gw d :: ρ) (gw v :: σ)
theorem SR.mono {K:Fg} {H H':Hp} (t:Ts H H'):∀ {ρ:aP} {σ:St},SR K H ρ σ->SR K H' ρ σ
  | _,_,.nil => .nil
  | _,_,.none r => .none (SR.mono t r)
  | _,_,.some h r => .some (h.mono t) (SR.mono t r)
theorem SR.get {K:Fg} {H:Hp}:∀ {ρ:aP} {σ:St} {i:Nat} {d:D},SR K H ρ σ->at3 ρ i=gw d->∃ v,σ[i]?=gw (gw v)/\RD K H d v
  | _,_,_,_,.nil,e=>by simp [at3] at e
  | _,_,0,_,.none _,e=>by simp [at3] at e
  | _,_,0,_,.some h _,e=>by simp [at3] at e;subst e;exact ⟨_,rfl,h⟩
  | _,_,i+1,_,.none r,e=>by
    obtain ⟨v,h1,h2⟩:=SR.get (i:=i) r (by simpa [at3] using e);exact ⟨v,by simpa using h1,h2⟩
  | _,_,i+1,_,.some _ r,e=>by
    obtain ⟨v,h1,h2⟩:=SR.get (i:=i) r (by simpa [at3] using e);exact ⟨v,by simpa using h1,h2⟩
theorem SR.set {K:Fg} {H:Hp} {d:D} {v:V} (q:RD K H d v):∀ {ρ:aP} {σ:St} (i:Nat),SR K H ρ σ->SR K H (sH ρ i d) (σ.set i (gw v))
  | _,_,_,.nil => .nil
  | _,_,0,.none r => .some q r
  | _,_,0,.some _ r => .some q r
  | _,_,i+1,.none r => .none (SR.set q i r)
  | _,_,i+1,.some h r => .some h (SR.set q i r)
theorem SR.len {K:Fg} {H:Hp}:∀ {ρ:aP} {σ:St},SR K H ρ σ->ρ.length=σ.length
  | _,_,.nil=>rfl
  | _,_,.none r=>congrArg (·+1) (SR.len r)
  | _,_,.some _ r=>congrArg (·+1) (SR.len r)
noncomputable def fB (n:Nat) (ds:List D):aP:=ds.map gw++um (n - ds.length) vd
theorem SR.nones {K:Fg} {H:Hp}:∀ n:Nat,SR K H (um n vd) (um n vd)
  | 0 => .nil
  | n+1 => .none (SR.nones n)
theorem SR.entry {K:Fg} {H:Hp} {k:Nat}:∀ {ds:List D} {vs:List V},bR K H ds vs->SR K H (ds.map gw++um k vd) (vs.map gw++um k vd)
  | _,_,.nil=>SR.nones k
  | _,_,.cons h r => .some h (SR.entry r)
noncomputable def upE (K:Fg) (t:cF):TE:=fun σ H Q=>∃ ρ G R,SR K H ρ σ/\HR K H G/\t ρ G R/\∀ v H' d G',Ts H H'->RD K H' d v->HR K H' G'->R d G'->Q v H'
noncomputable def upT (K:Fg) (t:xK):TT:=fun σ H Q=>∃ ρ G R,SR K H ρ σ/\HR K H G/\t ρ G R/\∀ b H' G',Ts H H'->HR K H' G'->R b G'->Q b H'
noncomputable def upA (K:Fg) (t:pL):TA:=fun σ H Q=>∃ ρ G R,SR K H ρ σ/\HR K H G/\t ρ G R/\∀ vs H' ds G',Ts H H'->bR K H' ds vs->HR K H' G'->R ds G'->Q vs H'
noncomputable abbrev cI (X:Cx) (e:Expr) (t:cF):Prop:=PE X e (upE X.K t)
noncomputable abbrev PT3 (X:Cx) (e:Expr) (t:xK):Prop:=PT X e (upT X.K t)
noncomputable abbrev PW3 (X:Cx) (e:Expr) (t:xK):Prop:=PW X e (upT X.K t)
noncomputable abbrev PA3 (X:Cx) (es:List Expr) (t:pL):Prop:=PA X es (upA X.K t)
structure fU where
  nx:aP->Gp->Prop
  rt:fM
  bk:aP->Gp->Prop:=fun _ _=>False
  ct:aP->Gp->Prop:=fun _ _=>False
noncomputable abbrev bL:=fU->aP->Gp->Prop
structure UpD (K:Fg) (E:fU) (F:Ends):Prop where
  nx:∀ ρ G σ H',SR K H' ρ σ->HR K H' G->E.nx ρ G->F.nx σ H'
  rt:∀ d G v H',RD K H' d v->HR K H' G->E.rt d G->F.rt v H'
  bk:∀ ρ G σ H',SR K H' ρ σ->HR K H' G->E.bk ρ G->F.bk σ H'
  ct:∀ ρ G σ H',SR K H' ρ σ->HR K H' G->E.ct ρ G->F.ct σ H'
noncomputable def upS (K:Fg) (t:bL):TS:=fun F σ H=>∃ ρ G E,SR K H ρ σ/\HR K H G/\t E ρ G/\UpD K E F
noncomputable abbrev PS3 (X:Cx) (st:Stmt) (t:bL):Prop:=PS X st (upS X.K t)
noncomputable abbrev yI (X:Cx) (st:List Stmt) (t:bL):Prop:=PSs X st (upS X.K t)
section
variable {X:Cx}
theorem PE.imp {t t':TE} (h:PE X e t) (k:∀ σ H Q,t' σ H Q->t σ H Q):PE X e t':=fun pins s σ H Q I q=>h pins s σ H Q I (k _ _ _ q)
theorem PT.imp {t t':TT} (h:PT X e t) (k:∀ σ H Q,t' σ H Q->t σ H Q):PT X e t':=fun pins s σ H Q I q=>h pins s σ H Q I (k _ _ _ q)
theorem PW.imp {t t':TT} (h:PW X e t) (k:∀ σ H Q,t' σ H Q->t σ H Q):PW X e t':=fun wh pins s σ H Q I q=>h wh pins s σ H Q I (k _ _ _ q)
theorem PA.imp {e:List Expr} {t t':TA} (h:PA X e t) (k:∀ σ H Q,t' σ H Q->t σ H Q):PA X e t':=fun p pins s σ H Q I q=>h p pins s σ H Q I (k _ _ _ q)
theorem PS.imp {e:Stmt} {t t':TS} (h:PS X e t) (k:∀ F σ H,t' F σ H->t F σ H):PS X e t':=fun pins s σ H F I q=>h pins s σ H F I (k _ _ _ q)
noncomputable def KF (K:Fg) (H:Hp):Prop:=∀ b o,K.lookup b=some o->H b=none
theorem uP {σ:St} (I:Inv X pins σ H s):KF X.K H:=fun b o e=>(I.bs b o (I.ok.mod.kin b o e)).2
theorem PE.kf {t:TE} (h:PE X e t):PE X e (fun σ H Q=>t σ H fun v H'=>KF X.K H'->Q v H'):=fun pins s σ H Q I q =>
  cR (h pins s σ H _ I q) fun _ _ ⟨v,H',I',r,q'⟩=>⟨v,H',I',r,q' (uP I')⟩
theorem PSs.imp {e:List Stmt} {t t':TS} (h:PSs X e t) (k:∀ F σ H,t' F σ H->t F σ H):PSs X e t':=fun pins s σ H F I q=>h pins s σ H F I (k _ _ _ q)
end
theorem iJ {K:Fg} (g:HR K H G) (n:H p=none) (k:KF K (upd H p o)):G p=none:=by
  have kn:K.lookup p=none:=by
    cases q:K.lookup p with
    | none=>rfl
    | some u=>have:=k p u q;rw [aF] at this;cases this
  cases q:G p with
  | none=>rfl
  | some u =>
    have z:=g p u q;cases u with
    | lst ds=>obtain ⟨xs,e,_⟩:=z;rw [n] at e;cases e
    | rol ds =>
      obtain ⟨xs,e,_⟩:=z;rcases e with (e | ⟨o,e⟩) | ⟨o,_,_,e,_⟩
      . rw [n] at e;cases e
      . rw [n] at e;cases e
      . rw [kn] at e;cases e
    | lX tt kvs =>
      rcases z with ⟨_,xs,e,_⟩ | ⟨_,xs,e,_⟩
      . rw [n] at e;cases e
      . rw [n] at e;cases e
    | rdc ob tt kvs =>
      rcases z with ⟨_,xs,e,_⟩ | ⟨_,xs,e,_⟩
      . rw [n] at e;cases e
      . rw [n] at e;cases e
    | ins C fs=>obtain ⟨dx,vs,e,_⟩:=z;rw [n] at e;cases e
    | exn C=>obtain ⟨o,vs,e,_⟩:=z;rw [n] at e;cases e
    | kst ks=>obtain ⟨_,_,_,e,_⟩:=z;rw [n] at e;cases e
    | nst ks=>obtain ⟨_,_,_,e,_⟩:=z;rw [n] at e;cases e
    | tab q p=>obtain ⟨_,e,_⟩:=z;rw [n] at e;cases e
    | clo c d=>obtain ⟨_,_,_,_,_,_,_,_,e,_⟩:=z;rw [n] at e;cases e
    | tpl ds =>
      obtain ⟨xs,e,_⟩:=z;rcases e with (e | ⟨o,e⟩) | ⟨o,_,_,e,_⟩
      . rw [n] at e;cases e
      . rw [n] at e;cases e
      . rw [kn] at e;cases e
variable {d:D}
section
variable {X:Cx} {a b c:Expr} {ta tb tc:cF} {pos:Pos}
noncomputable def aB (i:Nat):cF:=fun ρ G R=>match at3 ρ i with
  | some d=>R d G
  | none=>False
noncomputable def aV (d:D):cF:=fun _ G R=>R d G
theorem avX {K:Fg} {σ:St} (h:upE K (aB i) σ H Q):auL i σ H Q:=by
  obtain ⟨ρ,G,R,s,g,t,k⟩:=h;unfold aB at t;split at t
  . rename_i d e;obtain ⟨v,h1,h2⟩:=s.get e;exact ⟨v,h1,k v H d G (.refl H) h2 g t⟩
  . exact t.elim
theorem ai5 {K:Fg} (r:∀ H,RD K H d v) {σ:St} (h:upE K (aV d) σ H Q):tC v σ H Q:=by
  obtain ⟨ρ,G,R,s,g,t,k⟩:=h;exact k v H d G (.refl H) (r H) g t
theorem akB (i:Nat) (hN:X.N[i]?=some x:=by rfl) (hv:Vis X.env.scope x:=by first | exact Or.inl rfl | exact Or.inr (Or.inl rfl) | exact Or.inr (Or.inr rfl)) (hd:(x == ("__debug__" : Str))=false:=by decide)
    (hcd:(x == ("__classdict__" : Str))=false:=by decide):cI X (.Name x pos) (aB i):=PE.imp (adE hN hv hd hcd) fun _ _ _ h=>avX h
theorem aBI {i j pos}:cI X (.Constant (.int i) j pos) (aV (.int i)):=PE.imp auM fun _ _ _ h=>ai5 (fun _ => .int i) h
theorem aGQ {b j pos}:cI X (.Constant (.bool b) j pos) (aV (.bl b)):=PE.imp aAI fun _ _ _ h=>ai5 (fun _ => .bl b) h
theorem aBJ {j pos}:cI X (.Constant .none j pos) (aV .non):=PE.imp auN fun _ _ _ h=>ai5 (fun _ => .non) h
theorem aBK {x j pos}:cI X (.Constant (.str x) j pos) (aV (.str x)):=PE.imp auO fun _ _ _ h=>ai5 (fun _ => .str x) h
theorem akC (hg:Gl X x) (hm:X.mg x=some u) (r:RelV v u) (rd:∀ H,RD X.K H d v) (hd:(x == ("__debug__" : Str))=false:=by decide):cI X (.Name x pos) (aV d) :=
  PE.imp (ao7 hg hm r hd) fun _ _ _ h=>ai5 rd h
theorem avY (hg:Gl X x) (hm:X.mg x=none) (hv:bootBuiltins x=some (.type n)) (hn:x ≠ "__name__" := by decide) (hd:(x == ("__debug__" : Str))=false:=by decide):cI X (.Name x pos) (aV (.ty n)) :=
  PE.imp (ao8 hg hm hv (v := .ty n) rfl hn hd) fun _ _ _ h=>ai5 (fun _ => .ty n) h
noncomputable abbrev R3:=D->D->Gp->fM->Prop
noncomputable def OpI (K:Fg) (r:R2) (r3:R3):Prop:=∀ (H:Hp) (x y:D) (vx vy:V) (G:Gp) (R:fM) (Q:VK),RD K H x vx->RD K H y vy->HR K H G->r3 x y G R->(∀ v H' d G',Ts H H'->RD K H' d v->HR K H' G'->R d G'->Q v H')->r vx vy H fun v H'=>KF K H'->Q v H'
noncomputable def a4M (X:Cx) (f:Value->Value->Sem Value) (r3:R3):Prop:=∃ r,pN X f r/\OpI X.K r r3
noncomputable def OpC (K:Fg) (r:R2) (r3:R3):Prop:=∀ (H:Hp) (x y:D) (vx vy:V) (G:Gp) (R:fM) (Q:VK),RD K H x vx->RD K H y vy->HR K H G->r3 x y G R->(∀ v H' d G',Ts H H'->RD K H' d v->HR K H' G'->R d G'->Q v H')->r vx vy H Q
noncomputable def pO (X:Cx) (f:Value->Value->Sem Value) (r3:R3):Prop:=∃ r,pN X f r/\OpC X.K r r3
noncomputable def aG (r:R3) (ta tb:cF):cF:=fun ρ G R=>ta ρ G fun x G1=>tb ρ G1 fun y G2=>r x y G2 R
variable {r3:R3}
theorem aBL {K:Fg} (o:OpI K r r3) {σ:St} (h:upE K (aG r3 ta tb) σ H Q):tOp r (upE K ta) (upE K tb) σ H fun v H'=>KF K H'->Q v H':=by
  obtain ⟨ρ,G,R,s,g,t,k⟩:=h;refine ⟨ρ,G,_,s,g,t,fun vx H1 x G1 t1 rx g1 t'=>?_⟩;refine ⟨ρ,G1,_,s.mono t1,g1,t',fun vy H2 y G2 t2 ry g2 t''=>?_⟩;exact o H2 x y vx vy G2 R Q (rx.mono t2) ry g2 t'' fun v H' d G' t3=>k v H' d G' ((t1.trans t2).trans t3)
theorem adS {K:Fg} (o:OpC K r r3) {σ:St} (h:upE K (aG r3 ta tb) σ H Q):tOp r (upE K ta) (upE K tb) σ H Q:=by
  obtain ⟨ρ,G,R,s,g,t,k⟩:=h;refine ⟨ρ,G,_,s,g,t,fun vx H1 x G1 t1 rx g1 t'=>?_⟩;refine ⟨ρ,G1,_,s.mono t1,g1,t',fun vy H2 y G2 t2 ry g2 t''=>?_⟩;exact o H2 x y vx vy G2 R Q (rx.mono t2) ry g2 t'' fun v H' d G' t3=>k v H' d G' ((t1.trans t2).trans t3)
theorem aGR {op:Operator} (o:a4M X (binaryOp op) r3) (ha:cI X a ta) (hb:cI X b tb):cI X (.BinOp a op b pos) (aG r3 ta tb):=by
  obtain ⟨r,o1,o2⟩:=o;exact PE.imp (PE.kf (aAW o1 ha hb)) fun _ _ _ h=>aBL o2 h
theorem asU (o:pO X (compareOp op) r3) (ha:cI X a ta) (hb:cI X b tb) (hm:behindInMarks op b=false):cI X (.Compare a [op] [b] pos) (aG r3 ta tb):=by
  obtain ⟨r,o1,o2⟩:=o;exact PE.imp (aoK o1 ha hb hm) fun _ _ _ h=>adS o2 h
noncomputable def bJ (t:cF):xK:=fun ρ G R=>t ρ G fun x G1=>match x with
  | .bl k=>R k G1
  | _=>False
theorem a9D {K:Fg} {t:TE} {t3:cF} (f:∀ σ H Q,upE K t3 σ H Q->t σ H Q) {σ:St} {Q:Bool->Hp->Prop} (h:upT K (bJ t3) σ H Q):ajP t σ H Q:=by
  obtain ⟨ρ,G,R,s,g,u,k⟩:=h;refine f _ _ _ ⟨ρ,G,_,s,g,u,fun v H' d G' t1 r g1 q=>?_⟩;cases r with
  | bl b=>exact ⟨b,rfl,k b H' G' t1 g1 q⟩
  | _=>exact q.elim
theorem asV (o:pO X (compareOp op) r3) (ha:cI X a ta) (hb:cI X b tb) (hm:behindInMarks op b=false):PT3 X (.Compare a [op] [b] pos) (bJ (aG r3 ta tb)):=by
  obtain ⟨r,o1,o2⟩:=o;exact PT.imp (aoL o1 ha hb hm) fun _ _ _ h=>a9D (fun _ _ _=>adS o2) h
theorem aBM {t:cF} (h:cI X e t) (he:∀ whole,isTrue e X.env whole=(do let v ← whole;standAt e.pos;holding [v] (truthy v)):=by intro _;rfl):PT3 X e (bJ t) :=
  PT.imp (auP h he) fun _ _ _ h=>a9D (fun _ _ _ q=>q) h
noncomputable def pR (r r':R3) (ta tb tc:cF):cF:=fun ρ G R=>ta ρ G fun x G1=>tb ρ G1 fun y G2=>r x y G2 fun z G3=>match z with
  | .bl true=>tc ρ G3 fun w G4=>r' y w G4 R
  | .bl false=>R (.bl false) G3
  | _=>False
variable {r3':R3}
theorem ab5 {K:Fg} {r':R2} (o:OpC K r r3) (o':OpC K r' r3') {σ:St} (h:upE K (pR r3 r3' ta tb tc) σ H Q):adG r r' (upE K ta) (upE K tb) (upE K tc) σ H Q:=by
  obtain ⟨ρ,G,R,s,g,t,k⟩:=h;refine ⟨ρ,G,_,s,g,t,fun vx H1 x G1 t1 rx g1 t'=>?_⟩;refine ⟨ρ,G1,_,s.mono t1,g1,t',fun vy H2 y G2 t2 ry g2 t''=>?_⟩;refine o H2 x y vx vy G2 _ _ (rx.mono t2) ry g2 t'' fun v H3 d G3 t3 rd g3 q=>?_;cases rd with
  | bl b =>
    refine ⟨b,rfl,?_⟩;cases b with
    | true =>
      rw [if_pos rfl];refine ⟨ρ,G3,_,s.mono ((t1.trans t2).trans t3),g3,q,fun vw H4 w G4 t4 rw' g4 q'=>?_⟩;exact o' H4 y w vy vw G4 R Q (ry.mono (t3.trans t4)) rw' g4 q' fun v H' d G' t5=>k v H' d G' (((t1.trans t2).trans t3).trans (t4.trans t5))
    | false =>
      rw [if_neg jw];exact k _ H3 _ G3 ((t1.trans t2).trans t3) (.bl false) g3 q
  | _=>exact q.elim
theorem apC (o:pO X (compareOp op) r3) (o':pO X (compareOp op') r3') (ha:cI X a ta) (hb:cI X b tb) (hc:cI X c tc)
    (hm:lastMarks [op,op'] [b,c]=false:=by with_unfolding_all rfl):cI X (.Compare a [op,op'] [b,c] pos) (pR r3 r3' ta tb tc):=by
  obtain ⟨r,o1,o2⟩:=o;obtain ⟨r',o1',o2'⟩:=o';exact PE.imp (ajQ o1 o1' ha hb hc hm) fun _ _ _ h=>ab5 o2 o2' h
theorem apD (o:pO X (compareOp op) r3) (o':pO X (compareOp op') r3') (ha:cI X a ta) (hb:cI X b tb) (hc:cI X c tc)
    (hm:lastMarks [op,op'] [b,c]=false:=by with_unfolding_all rfl):PT3 X (.Compare a [op,op'] [b,c] pos) (bJ (pR r3 r3' ta tb tc)):=by
  obtain ⟨r,o1,o2⟩:=o;obtain ⟨r',o1',o2'⟩:=o';exact PT.imp (ajR o1 o1' ha hb hc hm) fun _ _ _ h=>a9D (fun _ _ _=>ab5 o2 o2') h
variable {sa sb:xK} {rest:List Expr}
noncomputable def ab6 (t u:xK):xK:=fun ρ G R=>t ρ G fun c G1=>if c=true then u ρ G1 R else R false G1
noncomputable def a9E (t u:xK):xK:=fun ρ G R=>t ρ G fun c G1=>if c=true then R true G1 else u ρ G1 R
noncomputable def a4N (t:xK):xK:=fun ρ G R=>t ρ G fun c G1=>R (!c) G1
theorem avZ {K:Fg} {σ:St} {Q:Bool->Hp->Prop} (h:upT K (ab6 sa sb) σ H Q):aAJ (upT K sa) (upT K sb) σ H Q:=by
  obtain ⟨ρ,G,R,s,g,t,k⟩:=h;refine ⟨ρ,G,_,s,g,t,fun c H1 G1 t1 g1 q=>?_⟩;cases c with
  | true=>exact ⟨ρ,G1,R,s.mono t1,g1,q,fun b H' G' t2=>k b H' G' (t1.trans t2)⟩
  | false=>exact k false H1 G1 t1 g1 q
theorem aBN {K:Fg} {σ:St} {Q:Bool->Hp->Prop} (h:upT K (a9E sa sb) σ H Q):tOr (upT K sa) (upT K sb) σ H Q:=by
  obtain ⟨ρ,G,R,s,g,t,k⟩:=h;refine ⟨ρ,G,_,s,g,t,fun c H1 G1 t1 g1 q=>?_⟩;cases c with
  | false=>exact ⟨ρ,G1,R,s.mono t1,g1,q,fun b H' G' t2=>k b H' G' (t1.trans t2)⟩
  | true=>exact k true H1 G1 t1 g1 q
theorem aw0 (ha:PT3 X a sa):PW3 X (.BoolOp .And [a] pos) sa:=ao9 ha
theorem aBO (ha:PT3 X a sa):PW3 X (.BoolOp .Or [a] pos) sa:=auQ ha
theorem aBP (ha:PT3 X a sa) (hb:PW3 X (.BoolOp .And (b :: rest) pos) sb):PW3 X (.BoolOp .And (a :: b :: rest) pos) (ab6 sa sb):=PW.imp (auR ha hb) fun _ _ _ h=>avZ h
theorem aGS (ha:PT3 X a sa) (hb:PW3 X (.BoolOp .Or (b :: rest) pos) sb):PW3 X (.BoolOp .Or (a :: b :: rest) pos) (a9E sa sb):=PW.imp (aAL ha hb) fun _ _ _ h=>aBN h
theorem aBQ (ha:PT3 X a sa):PT3 X (.UnaryOp .Not a pos) (a4N sa):=PT.imp (auS ha) fun σ H Q h=>by
  obtain ⟨ρ,G,R,s,g,t,k⟩:=h;exact ⟨ρ,G,_,s,g,t,fun c H1 G1 t1 g1 q=>k (!c) H1 G1 t1 g1 q⟩
noncomputable def zB (ta tb:cF):cF:=fun ρ G R=>ta ρ G fun x G1=>match x with
  | .bl true=>tb ρ G1 R
  | .bl false=>R (.bl false) G1
  | _=>False
noncomputable def asW (ta tb:cF):cF:=fun ρ G R=>ta ρ G fun x G1=>match x with
  | .bl true=>R (.bl true) G1
  | .bl false=>tb ρ G1 R
  | _=>False
noncomputable def a4O (ta:cF):cF:=fun ρ G R=>ta ρ G fun x G1=>match x with
  | .bl c=>R (.bl (!c)) G1
  | _=>False
theorem asY {op} (h:cI X a ta):cI X (.BoolOp op [a] pos) ta:=auT h
theorem aBR (ha:cI X a ta) (hb:cI X (.BoolOp .And (b :: rest) pos) tb):cI X (.BoolOp .And (a :: b :: rest) pos) (zB ta tb):=PE.imp (auU ha hb) fun σ H Q h=>by
  obtain ⟨ρ,G,R,s,g,t,k⟩:=h;refine ⟨ρ,G,_,s,g,t,fun v H1 x G1 t1 r g1 q=>?_⟩;cases r with
  | bl c =>
    refine ⟨c,rfl,?_⟩;cases c with
    | true=>exact ⟨ρ,G1,R,s.mono t1,g1,q,fun b H' d G' t2=>k b H' d G' (t1.trans t2)⟩
    | false=>exact k _ H1 _ G1 t1 (.bl false) g1 q
  | _=>exact q.elim
theorem aGT (ha:cI X a ta) (hb:cI X (.BoolOp .Or (b :: rest) pos) tb):cI X (.BoolOp .Or (a :: b :: rest) pos) (asW ta tb):=PE.imp (aAO ha hb) fun σ H Q h=>by
  obtain ⟨ρ,G,R,s,g,t,k⟩:=h;refine ⟨ρ,G,_,s,g,t,fun v H1 x G1 t1 r g1 q=>?_⟩;cases r with
  | bl c =>
    refine ⟨c,rfl,?_⟩;cases c with
    | false=>exact ⟨ρ,G1,R,s.mono t1,g1,q,fun b H' d G' t2=>k b H' d G' (t1.trans t2)⟩
    | true=>exact k _ H1 _ G1 t1 (.bl true) g1 q
  | _=>exact q.elim
theorem aBS (ha:cI X a ta):cI X (.UnaryOp .Not a pos) (a4O ta):=PE.imp (auV ha) fun σ H Q h=>by
  obtain ⟨ρ,G,R,s,g,t,k⟩:=h;refine ⟨ρ,G,_,s,g,t,fun v H1 x G1 t1 r g1 q=>?_⟩;cases r with
  | bl c=>exact ⟨c,rfl,k _ H1 _ G1 t1 (.bl _) g1 q⟩
  | _=>exact q.elim
noncomputable def ai6 (t:xK) (ta tb:cF):cF:=fun ρ G R=>t ρ G fun c G1=>if c=true then ta ρ G1 R else tb ρ G1 R
theorem apE (hc:PT3 X c sa) (ha:cI X a ta) (hb:cI X b tb):cI X (.IfExp c a b pos) (ai6 sa ta tb):=PE.imp (ajG hc ha hb) fun σ H Q h=>by
  obtain ⟨ρ,G,R,s,g,t,k⟩:=h;refine ⟨ρ,G,_,s,g,t,fun c H1 G1 t1 g1 q=>?_⟩;cases c with
  | true=>exact ⟨ρ,G1,R,s.mono t1,g1,q,fun b H' d G' t2=>k b H' d G' (t1.trans t2)⟩
  | false=>exact ⟨ρ,G1,R,s.mono t1,g1,q,fun b H' d G' t2=>k b H' d G' (t1.trans t2)⟩
end
section
variable {X:Cx} {e:Expr} {es:List Expr} {te:cF} {t:pL} {pos:Pos}
noncomputable def aC:pL:=fun _ G R=>R [] G
noncomputable def aA (ta:cF) (tr:pL):pL:=fun ρ G R=>ta ρ G fun x G1=>tr ρ G1 fun xs G2=>R (x :: xs) G2
theorem ab7:PA3 X [] aC:=PA.imp avB fun σ H Q h=>by
  obtain ⟨ρ,G,R,s,g,t,k⟩:=h;exact k [] H [] G (.refl H) .nil g t
theorem sI (ha:cI X e te) (hr:PA3 X es t) (hs:starEach (e :: es) X.env=(false,eval e X.env) :: starEach es X.env:=by rfl):PA3 X (e :: es) (aA te t):=PA.imp (aoM ha hr hs) fun σ H Q h=>by
  obtain ⟨ρ,G,R,s,g,t,k⟩:=h;refine ⟨ρ,G,_,s,g,t,fun v H1 x G1 t1 r g1 q=>?_⟩;refine ⟨ρ,G1,_,s.mono t1,g1,q,fun vs H2 xs G2 t2 rs g2 q'=>?_⟩;exact k (v :: vs) H2 (x :: xs) G2 (t1.trans t2) (.cons (r.mono t2) rs) g2 q'
noncomputable def gA (t:pL):cF:=fun ρ G R=>t ρ G fun xs G1=>xs.length<=sizeLine/\R (.tup xs) G1
noncomputable def lM (t:pL):cF:=fun ρ G R=>t ρ G fun xs G1=>xs.length<=sizeLine/\∀ p,G1 p=none->R (.ref p) (aM G1 p (.lst xs))
theorem aBT {x1} (h:PA3 X es t):cI X (.Tuple es x1 pos) (gA t):=PE.imp (avC h) fun σ H Q h=>by
  obtain ⟨ρ,G,R,s,g,t,k⟩:=h;refine ⟨ρ,G,_,s,g,t,fun vs H1 xs G1 t1 r g1 q=>?_⟩;refine ⟨by rw [← r.length];exact q.1,fun p hp=>?_⟩;have sn:Same H1 (upd H1 p (.tup vs)):=bH hp;exact k (.ref p) _ (.tup xs) G1 (t1.trans (.same sn)) (.tup (uL.of aF) (r.mono (.same sn)) (ap9 aF)) (g1.same sn) q.2
theorem aBU (h:PA3 X es t):cI X (.List es pos) (lM t):=PE.imp (PE.kf (avD h)) fun σ H Q h=>by
  obtain ⟨ρ,G,R,s,g,t,k⟩:=h;refine ⟨ρ,G,_,s,g,t,fun vs H1 xs G1 t1 r g1 q=>?_⟩;refine ⟨by rw [← r.length];exact q.1,fun p hp kf=>?_⟩;have sn:Same H1 (upd H1 p (.lst vs)):=bH hp;exact k (.ref p) _ (.ref p) _ (t1.trans (.same sn)) (.ref p) (g1.put (u := .lst xs) hp ⟨vs,aF,r.mono (.same sn)⟩) (q.2 p (iJ g1 hp kf))
end
end
variable {f:Value->Value->Sem Value}{g:Int->Int->Int}{ds:List D}{G:Gp}{te:cF}
section
section
variable {X:Cx} {a b c:Expr} {ta tb tc:cF} {pos:Pos}
noncomputable def rI3 (C:Int->Int->Prop) (g:Int->Int->Int):R3:=fun x y G R=>match x,y with
  | .int i,.int j=>C i j/\R (.int (g i j)) G
  | _,_=>False
noncomputable def aBW (g:Int->Int->Int):R3:=fun x y G R=>match x,y with
  | .int i,.int j=>R (.int (g i j)) G
  | _,_=>False
noncomputable def apF (g:Int->Int->Bool):R3:=fun x y G R=>match x,y with
  | .int i,.int j=>R (.bl (g i j)) G
  | _,_=>False
theorem afP {C:Int->Int->Prop} (h:pN X f (rI C fun i j => .int (g i j))):a4M X f (rI3 C g):=by
  refine ⟨_,h,fun H x y vx vy G R Q rx ry gh h k=>?_⟩;cases rx with
  | int i =>
    cases ry with
    | int j=>exact ⟨i,j,rfl,rfl,h.1,fun _=>k _ H _ G (.refl H) (.int _) gh h.2⟩
    | _=>exact False.elim h
  | _=>exact False.elim h
theorem aw1 (h:pN X f (rI0 fun i j => .int (g i j))):a4M X f (aBW g):=by
  refine ⟨_,h,fun H x y vx vy G R Q rx ry gh h k=>?_⟩;cases rx with
  | int i =>
    cases ry with
    | int j=>exact ⟨i,j,rfl,rfl,fun _=>k _ H _ G (.refl H) (.int _) gh h⟩
    | _=>exact False.elim h
  | _=>exact False.elim h
theorem adT {g:Int->Int->Bool} (h:pN X f (rI0 fun i j => .bl (g i j))):pO X f (apF g):=by
  refine ⟨_,h,fun H x y vx vy G R Q rx ry gh h k=>?_⟩;cases rx with
  | int i =>
    cases ry with
    | int j=>exact ⟨i,j,rfl,rfl,k _ H _ G (.refl H) (.bl _) gh h⟩
    | _=>exact False.elim h
  | _=>exact False.elim h
noncomputable def yN:R3:=aBW fun i j=>i - j
noncomputable def uQ:R3:=rI3 ajO fun i j=>i * j
noncomputable def cZ:R3:=rI3 av3 fun i j=>i / j
noncomputable def cL:R3:=rI3 (fun _ j=>0 < j) fun i j=>i % j
noncomputable def asZ:R3:=rI3 aAY fun i j=>i ^ j.toNat
theorem aBX:a4M X (binaryOp .Sub) yN:=aw1 av5
theorem aBY:a4M X (binaryOp .Mult) uQ:=afP av6
theorem aw2:a4M X (binaryOp .FloorDiv) cZ:=afP aoG
theorem aBZ:a4M X (binaryOp .Mod) cL:=afP av7
theorem aC0:a4M X (binaryOp .Pow) asZ:=afP av8
noncomputable def ai7:R3:=apF fun i j=>decide (i < j)
noncomputable def a74:R3:=apF fun i j=>decide (j < i)
noncomputable def aC1:R3:=apF fun i j=>decide (j<=i)
theorem aGU:pO X (compareOp .Lt) ai7:=adT aAZ
theorem aGV:pO X (compareOp .Gt) a74:=adT aB1
theorem aGW:pO X (compareOp .GtE) aC1:=adT aB2
noncomputable def akD:R3:=fun x y G R=>match x,y with
  | .int i,.int j=>R (.bl (decide (i<=j))) G
  | .str i,.str j=>R (.bl (!decide (j.cps.toList < i.cps.toList))) G
  | _,_=>False
theorem ai8:pN X (compareOp .LtE) (fun x y H Q=>∃ i j,x = .str i/\y = .str j/\Q (.bl (!decide (j.cps.toList < i.cps.toList))) H):=by
  intro pins s σ H x y v u Q I rx ry h;obtain ⟨i,j,rfl,rfl,q⟩:=h;obtain ⟨t,rfl⟩:=rx;obtain ⟨t',rfl⟩:=ry;exact PySem.P.le_str ⟨.bl _,H,I,rfl,q⟩
theorem aGX:pO X (compareOp .LtE) akD:=by
  refine ⟨_,aB0.or ai8,fun H x y vx vy G R Q rx ry gh h k=>?_⟩;cases rx with
  | int i =>
    cases ry with
    | int j=>exact .inl ⟨i,j,rfl,rfl,k _ H _ G (.refl H) (.bl _) gh h⟩
    | _=>exact False.elim h
  | str i =>
    cases ry with
    | str j=>exact .inr ⟨i,j,rfl,rfl,k _ H _ G (.refl H) (.bl _) gh h⟩
    | _=>exact False.elim h
  | _=>exact False.elim h
noncomputable def dH:R3:=fun x y G R=>match x,y with
  | .int i,.int j=>R (.int (i+j)) G
  | .str i,.str j=>i.length+j.length<=sizeLine/\R (.str (i++j)) G
  | .tup xs,.tup ys=>xs.length+ys.length<=sizeLine/\R (.tup (xs++ys)) G
  | .ref l,.ref m=>match G l,G m with
    | some (.lst xs),some (.lst ys)=>xs.length+ys.length<=sizeLine/\∀ p,G p=none->R (.ref p) (aM G p (.lst (xs++ys)))
    | _,_=>False
  | _,_=>False
theorem akE:pN X (binaryOp .Add) (fun x y H Q=>∃ a b ys,x = .ref a/\y = .ref b/\uL X.K H a []/\uL X.K H b ys/\Q (.ref b) H):=by
  intro pins s σ H x y v u Q I rx ry h;obtain ⟨a,b,ys,rfl,rfl,ha,hb,q⟩:=h;cases rx;cases ry;obtain ⟨its,r1,p1,_⟩:=I.tuple ha;obtain ⟨its2,r2,p2,_⟩:=I.tuple hb;cases r1;obtain ⟨⟨cls,dd,data,sl⟩,ho,hc,n,hd⟩:=id p1;obtain ⟨⟨cls2,dd2,data2,sl2⟩,ho2,hc2,n2,hd2⟩:=id p2;simp only at hc hd hc2 hd2;subst hc hd hc2 hd2
  exact concat_meets ⟨_,ho,rfl⟩ ⟨_,ho2,rfl⟩ noFill_tuple_add seq_tuple_add PySem.F.slot_tuple_add PySem.F.entry_tuple_add (PySem.F.args_tuple_add_2 _ _)
      (tuple_addW0 a b #[] its2.toArray n n2 dd dd2 sl sl2 (by simp)) ⟨ho,ho2,⟨.ref b,H,I,rfl,q⟩⟩
theorem aC2:a4M X (binaryOp .Add) dH:=by
  refine ⟨_,av4.or (adH.or (aoV.or (akE.or avR))),fun H x y vx vy G R Q rx ry gh h k=>?_⟩;cases rx with
  | int i =>
    cases ry with
    | int j=>exact .inl ⟨i,j,rfl,rfl,fun _=>k _ H _ G (.refl H) (.int _) gh h⟩
    | _=>exact False.elim h
  | str i =>
    cases ry with
    | str j=>exact .inr (.inl ⟨i,j,rfl,rfl,h.1,fun _=>k _ H _ G (.refl H) (.str _) gh h.2⟩)
    | _=>exact False.elim h
  | @tup a xs ds ha ra ea =>
    cases ry with
    | @tup b ys es hb rb eb =>
      by_cases hn:ds=[]
      . subst hn;cases ra;exact .inr (.inr (.inr (.inl ⟨a,b,ys,rfl,rfl,ha,hb,fun _=>k _ H _ G (.refl H) (.tup hb rb eb) gh h.2⟩)))
      . refine .inr (.inr (.inl ⟨a,b,xs,ys,rfl,rfl,ha,hb,fun z=>hn (ra.a03.mp z),by rw [← ra.length,← rb.length];exact h.1,fun z _=>?_,fun _ p hp _=>?_⟩))
        . subst z;cases rb;have h2:=h.2;rw [vq] at h2;exact k _ H _ G (.refl H) (.tup ha ra ea) gh h2
        . have sn:Same H (upd H p (.tup (xs++ys))):=bH hp;exact k _ _ _ G (.same sn) (.tup (uL.of aF) ((ra.append rb).mono (.same sn)) (ap9 aF)) (gh.same sn) h.2
    | _=>exact False.elim h
  | ref l =>
    cases ry with
    | ref m =>
      have h':(match G l,G m with
        | some (.lst xs),some (.lst ys)=>xs.length+ys.length<=sizeLine/\∀ p,G p=none->R (.ref p) (aM G p (.lst (xs++ys)))
        | _,_=>False):=h
      split at h'
      . rename_i xs ys e1 e2;obtain ⟨xv,f1,r1⟩:=gh l _ e1;obtain ⟨yv,f2,r2⟩:=gh m _ e2;refine .inr (.inr (.inr (.inr ⟨l,m,xv,yv,rfl,rfl,f1,f2,by rw [← r1.length,← r2.length];exact h'.1,fun p hp kf=>?_⟩)));have sn:Same H (upd H p (.lst (xv++yv))):=bH hp;exact k _ _ _ _ (.same sn) (.ref p) (gh.put (u := .lst (xs++ys)) hp ⟨_,aF,(r1.append r2).mono (.same sn)⟩) (h'.2 p (iJ gh hp kf))
      . exact h'.elim
    | _=>exact False.elim h
  | _=>exact False.elim h
noncomputable def aw3:R3:=fun x y G R=>match x,y with
  | .non,.non=>R (.bl true) G
  | _,.non=>R (.bl false) G
  | .bl i,.bl j=>R (.bl (i == j)) G
  | .int _,.bl _=>R (.bl false) G
  | .str _,.bl _=>R (.bl false) G
  | .non,.bl _=>R (.bl false) G
  | .tup _,.bl _=>R (.bl false) G
  | .ref _,.bl _=>R (.bl false) G
  | _,_=>False
noncomputable def akF:R3:=fun x y G R=>aw3 x y G fun d G'=>match d with
  | .bl k=>R (.bl (!k)) G'
  | _=>False
theorem isV (x:V) (v:Value) (k:Bool) (r:RelV x v):(v == .bool k)=decide (x = .bl k):=by
  cases x with
  | non=>cases r;rfl
  | bl b =>
    cases r;cases b <;> cases k <;> rfl
  | int _=>obtain ⟨t,rfl⟩:=r;rfl
  | str _=>obtain ⟨t,rfl⟩:=r;rfl
  | byt _=>obtain ⟨t,rfl⟩:=r;rfl
  | flt _=>obtain ⟨t,rfl⟩:=r;rfl
  | ref _=>cases r;rfl
  | ty _=>cases r;rfl
theorem a80 (x:V) (v:Value) (k:Bool) (r:RelV x v):plainIs v (.bool k)=true:=by
  cases x with
  | non=>cases r;rfl
  | bl b=>cases r;rfl
  | int _=>obtain ⟨t,rfl⟩:=r;rfl
  | str _=>obtain ⟨t,rfl⟩:=r;rfl
  | byt _=>obtain ⟨t,rfl⟩:=r;rfl
  | flt _=>obtain ⟨t,rfl⟩:=r;rfl
  | ref _=>cases r;rfl
  | ty _=>cases r;rfl
theorem apG:pN X (compareOp .Is) (fun x y H Q=>∃ k,y = .bl k/\Q (.bl (decide (x = .bl k))) H):=by
  intro pins s σ H x y v u Q I rx ry h;obtain ⟨k,rfl,q⟩:=h;cases ry;exact wpAny_is_plain (a80 x v k rx) ⟨.bl _,H,I,by rw [isV x v k rx];rfl,q⟩
theorem ai9:pN X (compareOp .IsNot) (fun x y H Q=>∃ k,y = .bl k/\Q (.bl (!decide (x = .bl k))) H):=by
  intro pins s σ H x y v u Q I rx ry h;obtain ⟨k,rfl,q⟩:=h;cases ry;exact wpAny_isNot_plain (a80 x v k rx) ⟨.bl _,H,I,by rw [isV x v k rx];rfl,q⟩
theorem aGY:pO X (compareOp .Is) aw3:=by
  refine ⟨_,avA.or apG,fun H x y vx vy G R Q rx ry gh h k=>?_⟩;cases ry with
  | non =>
    refine .inl ⟨rfl,?_⟩;cases rx with
    | non=>exact k _ H _ G (.refl H) (.bl _) gh h
    | _=>exact k _ H _ G (.refl H) (.bl _) gh h
  | bl j =>
    refine .inr ⟨j,rfl,?_⟩;cases rx with
    | bl i =>
      have e:decide (V.bl i=V.bl j)=(i == j):=by cases i <;> cases j <;> rfl
      rw [e];exact k _ H _ G (.refl H) (.bl _) gh h
    | ty n=>exact False.elim h
    | _=>exact k _ H _ G (.refl H) (.bl _) gh h
  | _=>cases rx <;> exact False.elim h
theorem aw4:pO X (compareOp .IsNot) akF:=by
  refine ⟨_,aoJ.or ai9,fun H x y vx vy G R Q rx ry gh h k=>?_⟩;cases ry with
  | non =>
    refine .inl ⟨rfl,?_⟩;cases rx with
    | non=>exact k _ H _ G (.refl H) (.bl _) gh h
    | _=>exact k _ H _ G (.refl H) (.bl _) gh h
  | bl j =>
    refine .inr ⟨j,rfl,?_⟩;cases rx with
    | bl i =>
      have e:decide (V.bl i=V.bl j)=(i == j):=by cases i <;> cases j <;> rfl
      rw [e];exact k _ H _ G (.refl H) (.bl _) gh h
    | ty n=>exact False.elim h
    | _=>exact k _ H _ G (.refl H) (.bl _) gh h
  | _=>cases rx <;> exact False.elim h
noncomputable def bI (G:Gp) (a:Addr):Option (List D):=match G a with
  | some (.lst ds)=>some ds
  | some (.rol ds)=>some ds
  | _=>none
theorem cJ {K:Fg} (g:HR K H G) {a:Addr} (e:bI G a=some ds):∃ xs,yG K H a xs/\bR K H ds xs:=by
  unfold bI at e;split at e
  . rename_i ds' q;cases e;obtain ⟨xs,h1,h2⟩:=g a _ q;exact ⟨xs,yG.of h1,h2⟩
  . rename_i ds' q;cases e;exact g a _ q
  . cases e
noncomputable def cB:R3:=fun x y G R=>match x,y with
  | .tup xs,.int i=>match yL xs i with
    | some d=>R d G
    | none=>False
  | .str z,.int i=>z.length<=sizeLine/\match yL z.cps.toList i with
    | some c=>R (.str ⟨#[c]⟩) G
    | none=>False
  | .ref p,.int i=>match bI G p with
    | some xs=>(match yL xs i with
      | some d=>R d G
      | none=>False)
    | none=>False
  | _,_=>False
theorem akG {K:Fg} (r:bR K H ds xs) {i:Int} {d:D} (e:yL ds i=some d):∃ v,yL xs i=some v/\RD K H d v:=by
  unfold yL at e ⊢;rw [← r.length];cases q:ixN ds.length i with
  | none=>rw [q] at e;cases e
  | some j =>
    rw [q] at e;exact r.get e
theorem aGZ (ha:cI X a ta) (hb:cI X b tb) (hs:a97 b):cI X (.Subscript a b pos) (aG cB ta tb):=by
  refine PE.imp (aB9 avQ ha hb hs) fun _ _ _ h=>adS ?_ h;intro H x y vx vy G R Q rx ry gh h k;cases rx with
  | @tup p xs ds hp r =>
    cases ry with
    | int i =>
      have h':(match yL ds i with
        | some d=>R d G
        | none=>False):=h
      split at h'
      . rename_i d e;obtain ⟨v,e1,e2⟩:=akG r e;exact .inr (.inl ⟨p,xs,i,v,rfl,rfl,hp,e1,k v H d G (.refl H) e2 gh h'⟩)
      . exact h'.elim
    | _=>exact False.elim h
  | str z =>
    cases ry with
    | int i =>
      have h':z.length<=sizeLine/\(match yL z.cps.toList i with
        | some c=>R (.str ⟨#[c]⟩) G
        | none=>False):=h
      obtain ⟨hz,h'⟩:=h';split at h'
      . rename_i d e;exact .inr (.inr ⟨z,i,d,rfl,rfl,hz,e,k _ H _ G (.refl H) (.str _) gh h'⟩)
      . exact h'.elim
    | _=>exact False.elim h
  | ref p =>
    cases ry with
    | int i =>
      have h':(match bI G p with
        | some xs=>(match yL xs i with
          | some d=>R d G
          | none=>False)
        | none=>False):=h
      split at h'
      . rename_i ds e;obtain ⟨xs,hp,r⟩:=cJ gh e;split at h'
        . rename_i d e';obtain ⟨v,e1,e2⟩:=akG r e';exact .inl ⟨p,xs,i,v,rfl,rfl,hp,e1,k v H d G (.refl H) e2 gh h'⟩
        . exact h'.elim
      . exact h'.elim
    | _=>exact False.elim h
  | _=>exact False.elim h
noncomputable abbrev TO3:=aP->Gp->(Option Int->Gp->Prop)->Prop
noncomputable def upO (K:Fg) (t:TO3):TO:=fun σ H Q=>∃ ρ G R,SR K H ρ σ/\HR K H G/\t ρ G R/\∀ i H' G',Ts H H'->HR K H' G'->R i G'->Q i H'
noncomputable abbrev PO3 (X:Cx) (e:Option Expr) (t:TO3):Prop:=PO X e (upO X.K t)
theorem PO.imp {e:Option Expr} {t t':TO} (h:PO X e t) (k:∀ σ H Q,t' σ H Q->t σ H Q):PO X e t':=fun pins s σ H Q I q=>h pins s σ H Q I (k _ _ _ q)
noncomputable def vO:TO3:=fun _ G R=>R none G
noncomputable def a4P (t:cF):TO3:=fun ρ G R=>t ρ G fun x G1=>match x with
  | .int i=>R (some i) G1
  | _=>False
theorem aw5:PO3 X none vO:=PO.imp aoT fun σ H Q h=>by
  obtain ⟨ρ,G,R,s,g,t,k⟩:=h;exact k none H G (.refl H) g t
theorem aw6 (h:cI X e te):PO3 X (some e) (a4P te):=PO.imp (aoU h) fun σ H Q h=>by
  obtain ⟨ρ,G,R,s,g,t,k⟩:=h;refine ⟨ρ,G,_,s,g,t,fun v H1 x G1 t1 r g1 q=>?_⟩;cases r with
  | int i=>exact ⟨i,rfl,k _ H1 G1 t1 g1 q⟩
  | _=>exact False.elim q
noncomputable def cutD {α:Type} (xs:List α) (lo hi:Option Int):List α:=(xs.drop (HT.jF xs.length 0 lo)).take (HT.jF xs.length xs.length hi - HT.jF xs.length 0 lo)
end
end
variable {F:Ends}
section
section
variable {X:Cx} {st:Stmt} {rest:List Stmt} {t u:bL} {e:Expr} {te:cF} {pos:Pos}
noncomputable def cM:bL:=fun F ρ G=>F.nx ρ G
noncomputable def aQ (t u:bL):bL:=fun F ρ G=>t { F with nx:=u F } ρ G
theorem aC4:yI X [] cM:=PSs.imp aoA fun F σ H h=>by
  obtain ⟨ρ,G,E,s,g,q,d⟩:=h;exact d.nx ρ G σ H s g q
theorem aw7 {K:Fg} {σ:St} (h:upS K (aQ t u) F σ H):auW (upS K t) (upS K u) F σ H:=by
  obtain ⟨ρ,G,E,s,g,q,d⟩:=h;exact ⟨ρ,G,_,s,g,q,⟨fun ρ' G' σ' H' s1 g1 h=>⟨ρ',G',E,s1,g1,h,d⟩,d.rt,d.bk,d.ct⟩⟩
theorem aw8 (h1:PS3 X st t) (h2:yI X rest u):yI X (st :: rest) (aQ t u):=PSs.imp (ajI h1 h2) fun _ _ _ h=>aw7 h
theorem aC5 (h1:PS3 X st t):yI X [st] t:=a90 h1
theorem aw9:PS3 X (.Pass pos) cM:=PS.imp aoB fun F σ H h=>by
  obtain ⟨ρ,G,E,s,g,q,d⟩:=h;exact d.nx ρ G σ H s g q
noncomputable def nY (te:cF):bL:=fun F ρ G=>te ρ G fun _ G1=>F.nx ρ G1
theorem awA (he:cI X e te) (hs:swapsWith e none pos.line X.env=pure false:=by rfl):PS3 X (.Expr e pos) (nY te):=PS.imp (aoC he hs) fun F σ H h=>by
  obtain ⟨ρ,G,E,s,g,q,d⟩:=h;exact ⟨ρ,G,_,s,g,q,fun v H' x G' t1 r g1 h=>d.nx ρ G' σ H' (s.mono t1) g1 h⟩
noncomputable def dB (te:cF):bL:=fun F ρ G=>te ρ G F.rt
theorem aC6 (he:cI X e te):PS3 X (.Return (some e) pos) (dB te):=PS.imp (ajJ he) fun F σ H h=>by
  obtain ⟨ρ,G,E,s,g,q,d⟩:=h;exact ⟨ρ,G,_,s,g,q,fun v H' x G' t1 r g1 h=>d.rt x G' v H' r g1 h⟩
noncomputable def f9 (c:xK) (t u:bL):bL:=fun F ρ G=>c ρ G fun b G1=>if b=true then t F ρ G1 else u F ρ G1
theorem aH0 {a b:List Stmt} {tc:xK} (hc:PT3 X c tc) (ha:yI X a t) (hb:yI X b u):PS3 X (.If c a b pos) (f9 tc t u):=PS.imp (aAQ hc ha hb) fun F σ H h=>by
  obtain ⟨ρ,G,E,s,g,q,d⟩:=h;refine ⟨ρ,G,_,s,g,q,fun b H' G' t1 g1 h=>?_⟩;cases b with
  | true=>exact ⟨ρ,G',E,s.mono t1,g1,h,d⟩
  | false=>exact ⟨ρ,G',E,s.mono t1,g1,h,d⟩
noncomputable def bB (i:Nat) (te:cF):bL:=fun F ρ G=>te ρ G fun x G1=>F.nx (sH ρ i x) G1
theorem at5 {pos':Pos} (hN:X.N.Nodup) (hi:X.N[i]?=some x) (hx:Loc X.env.scope x) (he:cI X e te) (hs:swapsWith e (some (.Name x pos')) pos.line X.env=pure false:=by rfl) (hf:X.fn x=true∨X.env.scope.names.lookup x=some .local:=by first | exact .inl rfl | exact .inr rfl | assumption) :
    PS3 X (.Assign [.Name x pos'] e pos) (bB i te):=PS.imp (auY hN hi hx he hs hf) fun F σ H h=>by
  obtain ⟨ρ,G,E,s,g,q,d⟩:=h;exact ⟨ρ,G,_,s,g,q,fun v H' x G' t1 r g1 h=>d.nx _ G' _ H' ((s.mono t1).set r i) g1 h⟩
end
section
variable {X:Cx} {body:List Stmt} {tb:bL} {e:Expr} {te:cF} {pos:Pos}
theorem akH {K:Fg} {J:It} {g:TG} {tb:TS} {σ:St} {n:Nat} (Pv:Nat->St->Hp->Prop) (h0:Pv 0 σ H)
    (stop:∀ σ H,Pv n σ H->J.stop n H) (go:∀ i σ H,i < n->Pv i σ H->J.go i H)
    (hs:∀ i x σ H H',i < n->Pv i σ H->J.yld i H x H'->g x σ H' fun σ2 H2=>tb { F with nx:=Pv (i+1),ct:=Pv (i+1),bk:=F.nx } σ2 H2) (hd:∀ σ H,Pv n σ H->F.nx σ H) :
    ∃ W:Nat->Nat->St->Hp->Prop,(∃ m,W 0 m σ H)/\∀ i m σ H,W i m σ H ->
      (J.stop i H/\F.nx σ H)∨(J.go i H/\∃ N:St->Hp->Prop,(∀ σ' H',N σ' H'->∃ m',m' < m/\W (i+1) m' σ' H')/\∀ x H',J.yld i H x H'->g x σ H' fun σ2 H2=>tb { F with nx:=N,ct:=N,bk:=F.nx } σ2 H2):=by
  refine ⟨fun i m σ H=>m=n - i/\i<=n/\Pv i σ H,⟨n,by simp,oh _,h0⟩,?_⟩;rintro i m σ H ⟨rfl,hi,p⟩;by_cases hlt:i < n
  . exact .inr ⟨go i σ H hlt p,Pv (i+1),fun σ' H' p'=>⟨n - (i+1),by omega,rfl,hlt,p'⟩,fun x H' y=>hs i x σ H H' hlt p y⟩
  . have e:i=n:=by omega
    subst e;exact .inl ⟨stop σ H p,hd σ H p⟩
end
noncomputable abbrev aY:=Addr->Gp->Prop
noncomputable abbrev kJ:=List D->Gp->fM->aY->Prop
noncomputable def UpX (K:Fg) (EX:aY) (E:XK):Prop:=∀ C H' G',HR K H' G'->EX C G'->E (.ref C) none H'
noncomputable def cY (K:Fg) (sp:kJ):Sp:=fun vs H Q E=>∃ ds G R EX,bR K H ds vs/\HR K H G/\sp ds G R EX/\(∀ v H' d G',RD K H' d v->HR K H' G'->R d G'->Q v H')/\UpX K EX E
section
variable {X:Cx} {CX:CXT} {k:Nat} {f C:Addr} {fd:FuncData} {ps:List Str} {sp:kJ} {E:XK} {EX:aY} {x:Str} {p pos:Pos} {e:Expr} {es:List Expr} {t:pL}
noncomputable def apH (n m:Nat) (tb:aY->bL):kJ:=fun ds G R EX=>ds.length=m/\tb EX ⟨fun _ G'=>R .non G',R,fun _ _=>False,fun _ _=>False⟩ (fB n ds) G
end
end
variable {l:List Env}{C:Addr}{tb:aY->bL}{env:Env}{X:Cx}{s':Shared}
section
noncomputable def iK (P:Program) (w:World):CXT:=fun outer H s E e s'=>∃ (x C:Addr) (H':Hp) (B:Heap),e = .ref x/\Fly B outer x (.ref C) s'.heap/\qL P w H' B /\
  (∀ b o,s.heap.get? b=some o->H b=none->b ∉ frs outer->B.get? b=some o)/\(∀ b o,s.heap.get? b=some o->b ∉ frs outer->∃ o',B.get? b=some o') /\
  Un (frs outer) [] H H' s.heap s'.heap/\s'.os=s.os/\AllBare s'.gens/\E (.ref C) none H'
theorem afQ (h:b∈frs l):∃ env∈l,env.frame=some b:=wk.mp h
theorem a9F (h:env∈l) (e:env.frame=some b):b∈frs l:=wk.mpr ⟨env,h,e⟩
section
variable {qt:Bool} {P:Program} {w:World} {K:Fg} {mg:Str->Option Value} {base:Heap} {N:List Str} {qual:Str} {scope:Scope} {f:Addr} {cd:Value} {A:Around} {outer:List Env} {s₀:Shared} {H₀:Hp} {E:XK}
noncomputable abbrev cx1 (qt:Bool) (P:Program) (w:World) (K:Fg) (mg:Str->Option Value) (base:Heap) (N:List Str) (qual:Str) (scope:Scope) (f:Addr) (cd:Value) (A:Around) (outer:List Env) (s₀:Shared) (H₀:Hp) (E:XK):Cx:=gQ qt (iK P w) P w K mg base N qual scope f cd A outer s₀ H₀ E
theorem iC {σ:St} (I:Inv X pins σ H s) (hst:X.stack=X.env :: X.outer) (hf:X.env.frame=some X.env.locals) (e:X.s₀.heap.get? b=some o) (n:b ∉ frs X.outer):b ∉ frs X.stack:=fun hb=>by
  obtain ⟨env,he,hfr⟩:=afQ hb;rw [hst] at he;rcases jq.mp he with rfl | he
  . have z:X.env.locals=b:=gw.inj (hf.symm.trans hfr);have h1:=I.ok.above;have h2:=cu e;rw [z] at h1;exact absurd (dg h2 h1) (mj _)
  . exact n (a9F he hfr)
theorem apI {σ:St} {e:Addr} (I:Inv (cx1 qt P w K mg base N qual scope f cd A outer s₀ H₀ E) pins σ H s) (hm:a07 s.heap h' e (.ref C) us) (q:E (.ref C) none H) :
    (cx1 qt P w K mg base N qual scope f cd A outer s₀ H₀ E).xe (.ref e) { s with heap:=h' }:=by
  have hst:(cx1 qt P w K mg base N qual scope f cd A outer s₀ H₀ E).stack=(cx1 qt P w K mg base N qual scope f cd A outer s₀ H₀ E).env :: outer:=rfl;have hin:∀ env∈(cx1 qt P w K mg base N qual scope f cd A outer s₀ H₀ E).stack,∀ b,env.frame=some b->b∈frs (cx1 qt P w K mg base N qual scope f cd A outer s₀ H₀ E).stack:=fun env he b hb=>a9F he hb;have hB:∀ b o,(zf s.heap (frs (cx1 qt P w K mg base N qual scope f cd A outer s₀ H₀ E).stack)).get? b=some o->s.heap.get? b=some o:=fun b o e=>PySem.W.of_hideAll _ e;have toB:∀ b o,s.heap.get? b=some o->b ∉ frs (cx1 qt P w K mg base N qual scope f cd A outer s₀ H₀ E).stack->(zf s.heap (frs (cx1 qt P w K mg base N qual scope f cd A outer s₀ H₀ E).stack)).get? b=some o:=fun b o e n=>PySem.W.hideAll_get _ e n;have fr:=PySem.W.funFrames_hide I.stack hin;refine adC (B:=zf s.heap (frs (cx1 qt P w K mg base N qual scope f cd A outer s₀ H₀ E).stack)) (h0:=s.heap) I.ok.frames rfl hB fr hm fun h2 k1 k4=>?_;have up:∀ b o,s.heap.get? b=some o->(∀ vs,o.data ≠ .fields vs)->∃ sl,h2.get? b=some { o with slots:=sl }:=fun b o e nd=>k4 b o (hm.keeps b o e) nd
  have hfd:∀ b∈frs outer,∀ o,s.heap.get? b=some o->∀ vs,o.data ≠ .fields vs:=fun b hb o e=>by
    obtain ⟨_,o',ho',hd⟩:=I.mQ.mem hb;rw [e] at ho';cases ho';exact hd
  refine ⟨e,C,H,_,rfl,k1,?_,fun b o eb nb hb=>?_,fun b o eb hb=>?_,⟨fun b o eb nb hb _=>?_,fun b o eb nb hb _=>?_,fun b o eb nb hx=>I.base.free b o eb nb hx,fun b o eb hx=>?_,I.base.tups,I.base.dI,I.base.mL⟩,I.os,I.bare,q⟩
  . intro b o hb;refine (I.hok b o hb).stay (fun c u hc eu=>toB c u eu fun hz=>?_) (fun _ z=>z) fun _ _ z=>z;have n:=I.a8Z c hz;rcases hc with rfl | hc
    . rw [hb] at n;cases n
    . rw [hc] at n;cases n
  . exact toB b o (I.base.keep b o eb nb hb (by simp [gQ])) (iC I hst rfl eb hb)
  . obtain ⟨o',e'⟩:=I.base.there b o eb (by simp [gQ]);exact ⟨o',toB b o' e' (iC I hst rfl eb hb)⟩
  . exact k1.stays b o (toB b o (I.base.keep b o eb nb hb (by simp [gQ])) (iC I hst rfl eb hb))
  . obtain ⟨sl,e1⟩:=I.base.slot b o eb nb hb (by simp [gQ]);obtain ⟨sl2,e2⟩:=up b _ e1 (hfd b hb _ e1);exact ⟨sl2,e2⟩
  . obtain ⟨o',e'⟩:=I.base.there b o eb (by simp [gQ]);by_cases hb:b∈frs outer
    . obtain ⟨sl,e1⟩:=up b o' e' (hfd b hb o' e');exact ⟨_,e1⟩
    . exact ⟨o',k1.stays b o' (toB b o' e' (iC I hst rfl eb hb))⟩
theorem apJ {E':XK} (hE:∀ C H',E' C none H'->E C none H') {σ:St} {e:Value} (I:Inv (cx1 qt P w K mg base N qual scope f cd A outer s₀ H₀ E) pins σ H s)
    (c:iK P w (cx1 qt P w K mg base N qual scope f cd A outer s₀ H₀ E).stack H s E' e s'):(cx1 qt P w K mg base N qual scope f cd A outer s₀ H₀ E).xe e s':=by
  obtain ⟨x,C,H',B,rfl,fl,hok,cov,adU,un,os,bare,q⟩:=c;have hst:(cx1 qt P w K mg base N qual scope f cd A outer s₀ H₀ E).stack=(cx1 qt P w K mg base N qual scope f cd A outer s₀ H₀ E).env :: outer:=rfl;refine ajB (B:=B) I.ok.frames rfl fl fun h2 k1 k4=>?_
  have hfs:∀ b∈frs outer,b∈frs (cx1 qt P w K mg base N qual scope f cd A outer s₀ H₀ E).stack:=fun b hb=>by
    obtain ⟨env,he,hf⟩:=afQ hb;exact a9F (iw _ he) hf
  have hfd:∀ b∈frs outer,∀ o,s'.heap.get? b=some o->∀ vs,o.data ≠ .fields vs:=fun b hb o e=>by
    obtain ⟨_,o',ho',hd⟩:=fl.auF.mem (hfs b hb);rw [e] at ho';cases ho';exact hd
  refine ⟨x,C,H',B,rfl,k1,hok,fun b o eb nb hb=>?_,fun b o eb hb=>?_,⟨fun b o eb nb hb _=>?_,fun b o eb nb hb _=>?_,fun b o eb nb hx=>?_,fun b o eb hx=>?_,fun b xs z=>un.tups b xs (I.base.tups b xs z),fun b o u z=>un.dI b o u (I.base.dI b o u z),fun b ps z=>?_⟩,os.trans I.os,bare,hE _ _ q⟩
  . exact cov b o (I.base.keep b o eb nb hb (by simp [gQ])) (I.base.free b o eb nb (by simp [gQ])) (iC I hst rfl eb hb)
  . obtain ⟨o',e'⟩:=I.base.there b o eb (by simp [gQ]);exact adU b o' e' (iC I hst rfl eb hb)
  . exact k1.stays b o (cov b o (I.base.keep b o eb nb hb (by simp [gQ])) (I.base.free b o eb nb (by simp [gQ])) (iC I hst rfl eb hb))
  . obtain ⟨sl,e1⟩:=I.base.slot b o eb nb hb (by simp [gQ]);obtain ⟨sl2,e2⟩:=un.slot b _ e1 (I.base.free b o eb nb (by simp [gQ])) (hfs b hb) (by simp);obtain ⟨sl3,e3⟩:=k4 b _ e2 (hfd b hb _ e2);exact ⟨sl3,e3⟩
  . obtain ⟨o',e'⟩:=I.base.there b o eb (by simp [gQ]);exact un.free b o' e' (I.base.free b o eb nb (by simp [gQ])) (by simp)
  . obtain ⟨o',e'⟩:=I.base.there b o eb (by simp [gQ]);by_cases hb:b∈frs outer
    . obtain ⟨o2,e2⟩:=un.there b o' e' (by simp);obtain ⟨sl,e3⟩:=k4 b o2 e2 (hfd b hb o2 e2);exact ⟨_,e3⟩
    . obtain ⟨o2,e2⟩:=adU b o' e' (iC I hst rfl eb hb);exact ⟨o2,k1.stays b o2 e2⟩
  . obtain ⟨m1,e1⟩:=I.base.mL b ps z;obtain ⟨m2,e2⟩:=un.mL b _ e1;exact ⟨m1++m2,by rw [e2,Array.append_assoc]⟩
end
noncomputable def a2I (K:Fg) (EX:aY):XK:=fun C _ H'=>∃ c G',C = .ref c/\HR K H' G'/\EX c G'
structure Cat (X:Cx) (EX:aP->aY):Prop where
  afR:∀ pins σ H s ρ e s',Inv X pins σ H s->SR X.K H ρ σ->iK X.prog X.w X.stack H s (a2I X.K (EX ρ)) e s'->X.xe e s'
structure Thr (X:Cx) (EX:aP->aY):Prop where
  made:∀ pins σ H s ρ C e us h',Inv X pins σ H s->SR X.K H ρ σ->a07 s.heap h' e (.ref C) us->a2I X.K (EX ρ) (.ref C) none H->X.xe (.ref e) { s with heap:=h' }
section
variable {qt:Bool} {P:Program} {w:World} {K:Fg} {mg:Str->Option Value} {base:Heap} {N:List Str} {qual:Str} {scope:Scope} {f:Addr} {cd:Value} {A:Around} {outer:List Env} {s₀:Shared} {H₀:Hp} {E:XK} {EX:aY}
theorem ab8 (h:UpX K EX E) {C:Value} (q:a2I K EX C none H'):E C none H':=by
  obtain ⟨c,G',rfl,g,q⟩:=q;exact h c H' G' g q
theorem awB (h:UpX K EX E):Cat (cx1 qt P w K mg base N qual scope f cd A outer s₀ H₀ E) (fun _=>EX) :=
  ⟨fun pins σ H s ρ e s' I _ c=>apJ (E':=a2I K EX) (fun C H' q=>ab8 h q) I c⟩
theorem awC (h:UpX K EX E):Thr (cx1 qt P w K mg base N qual scope f cd A outer s₀ H₀ E) (fun _=>EX) :=
  ⟨fun pins σ H s ρ C e us h' I _ hm q=>apI I hm (ab8 h q)⟩
theorem own1:PassesOwn (model P w) (cx1 qt P w K mg base N qual scope f cd A outer s₀ H₀ E).A (cx1 qt P w K mg base N qual scope f cd A outer s₀ H₀ E).env (cx1 qt P w K mg base N qual scope f cd A outer s₀ H₀ E).xe:=PassesOwn.leaving
end
section
variable {X:Cx} {k:Nat} {f C:Addr} {fd:FuncData} {ps:List Str} {sp:kJ} {EX:aP->aY} {x:Str} {p pos:Pos} {e:Expr} {es:List Expr} {t:pL}
noncomputable def c7 (sp:kJ) (EX:aP->aY) (t:pL):cF:=fun ρ G R=>t ρ G fun ds G1=>sp ds G1 R (EX ρ)
theorem afS {σ:St} {Q':VK} {E:XK} (F:cG qt X.prog X.w X.K X.mg X.base (iK X.prog X.w) k f fd ps (cY X.K sp)) (hr:cO qt k X.A) (hb:Binds X.K fd ps [])
    (hx:∀ e s',iK X.prog X.w X.stack H s E e s'->X.xe e s')
    (I:Inv X pins σ H s) (r:Vals vs us) (h:cY X.K sp vs H Q E) (hQ:∀ v H',Ts H H'->Q v H'->Q' v H'):wpAny (model X.prog X.w) X.A (call (.ref f) us) (EP X pins σ Q') X.xe s:=by
  have hl:(us++[]).length=ps.length:=by rw [vq,← r.length];exact F.len _ _ _ _ h
  refine wpAny_call (codeAny_mono (F.run X.A X.stack s H ⟨us,[]⟩ (us++[]) vs Q E hr I.env0 (hb s us I.kIn hl) (by rw [vq];exact r) h) fun r s' hq=>?_);cases r with
  | error e=>exact hx e s' hq
  | ok fl =>
    cases fl with
    | ret u =>
      obtain ⟨v,H',os,bare,un,hok,r,q⟩:=hq;exact ⟨v,H',I.call' (ch:=[]) os un hok bare (fun b z=>absurd z (by simp)),r,hQ v H' ⟨un.tups,un.dI⟩ q⟩
    | next=>exact False.elim hq
    | brk=>exact False.elim hq
    | cont=>exact False.elim hq
theorem apK (F:cG qt X.prog X.w X.K X.mg X.base (iK X.prog X.w) k f fd ps (cY X.K sp)) (hr:cO qt k X.A) (hg:Gl X x) (hm:X.mg x=some (.ref f)) (hk:jy X.K (.ref f)=true) (hb:Binds X.K fd ps []) (hx:Cat X EX)
    (ha:PA3 X (e :: es) t) (hdb:(x == ("__debug__" : Str))=false:=by decide) (he:starEach (e :: es) X.env=(false,eval e X.env) :: starEach es X.env:=by rfl) (hpl:(backTo pos (starEach es X.env)).any (·.1)=false:=by rfl) :
    cI X (.Call (.Name x p) (e :: es) [] pos) (c7 sp EX t):=by
  intro pins s σ H Q I h _tk;obtain ⟨ρ,G,R,sr,g,q,kk⟩:=h;refine wpAny_Call_Name_kw (jX I hg hm ?_ hdb);refine PySem.W.callWith_K (h₀:=X.base) I.ok.mod.kin hk (cR (ha pos pins s σ H (fun vs H1=>Ts H H1/\∃ ds G1,bR X.K H1 ds vs/\HR X.K H1 G1/\sp ds G1 R (EX ρ)) I ⟨ρ,G,_,sr,g,q,fun vs H1 ds G1 t1 r1 g1 q1=>⟨t1,ds,G1,r1,g1,q1⟩⟩) fun us s1 ⟨vs,H1,I1,r,t1,ds,G1,r1,g1,q1⟩=>⟨I1.kIn,?_⟩) he hpl;refine afS (E:=a2I X.K (EX ρ)) F hr hb (fun e s' c=>hx.afR pins σ H1 s1 ρ e s' I1 (sr.mono t1) c) I1 r (Q:=fun v H'=>∃ d G',RD X.K H' d v/\HR X.K H' G'/\R d G') ⟨ds,G1,R,EX ρ,r1,g1,q1,fun v H' d G' r2 g2 q2=>⟨d,G',r2,g2,q2⟩,fun C H' G' g' q'=>⟨C,G',rfl,g',q'⟩⟩ fun v H' t2 ⟨d,G',r2,g2,q2⟩=>kk v H' d G' (t1.trans t2) r2 g2 q2
theorem awD {w:World} {K:Fg} {f:Addr} {k:Nat} (F:v9 K x qual st f fd) (S:bD N ps (aH st))
    (hbody:∀ (cdv:Value) (A:Around) (outer:List Env) (s:Shared) (H:Hp) (E:XK) (EX:aY),cO qt k (A.deeper (envOfC qual (aH st) s.heap.objs.size f cdv))->UpX K EX E ->
      yI (cx1 qt P w K mg base N qual (aH st) f cdv A outer s H E) (cA st) (tb EX)):cG qt P w K mg base (iK P w) (k+1) f fd ps (cY K (apH N.length ps.length tb)):=by
  obtain ⟨oc,od,dV,kV,doc,pm,an,cdv,ct,osl,rfl,lk,hcd⟩:=F.ex;have hpl:ps.length<=N.length:=by have:=congrArg List.length S.pre;rw [ou] at this;omega
  refine ajU lk hcd S (fun vs H Q E h=>?_) fun A outer s H vs Q E hr hsp=>?_
  . obtain ⟨ds,G,R,EX,r,g,⟨hl,q⟩,_⟩:=h;rw [← r.length,hl]
  . obtain ⟨ds,G,R,EX,r,g,⟨hl,q⟩,kk,hE⟩:=hsp;refine ⟨_,hbody cdv A outer s H E EX hr hE,fB N.length ds,G,_,?_,g,q,⟨fun ρ G' σ' H' s1 g1 q1=>kk .non H' .non G' .non g1 q1,fun d G' v H' r1 g1 q1=>kk v H' d G' r1 g1 q1,fun _ _ _ _ _ _ z=>z.elim,fun _ _ _ _ _ _ z=>z.elim⟩⟩;unfold fB start;rw [r.length];exact SR.entry r
end
section
variable {X:Cx} {C:Addr} {bmB bmN:List Value} {B Bn newId nid initId inN:String} {EX:aP->aY} {x:Str} {np cpos pos:Pos} {e:Expr} {es:List Expr} {t:pL}
theorem a3F {K:Fg} (XK:K.In h) (q:ju K C bmB newId=true):∃ bm N nm q bs hdct sn sub ab col dd k0 k1 k2 k3 k5 mN,h.get? C=some (excClassObj nm q C N bs bm hdct sn sub ab col dd k0 k1 k2 k3 k5 newId)/\h.Ns N mN/\mN "__init__" = none/\OwnTail h bmB bm:=by
  unfold ju at q;split at q
  . rename_i dd cd sl ho;split at q
    . rename_i C' bm k0 k1 k2 k3 n k5 hm hs;simp only [ak,beq_iff_eq,cg] at q;obtain ⟨⟨⟨⟨⟨rfl,rfl⟩,hdel⟩,ht⟩,hok⟩,hni⟩:=q;obtain ⟨nm,bs,mro,ns,qn,hd,sn,sub,ab,col,del⟩:=cd;dsimp only at hm hdel hok hni;subst hm hdel
      have hsl:sl=#[k0,k1,k2,k3,some (.builtin n),k5]:=by
        obtain ⟨l⟩:=sl;simp only at hs;rw [hs]
      subst hsl;exact ⟨bm,ns,nm,qn,bs,hd,sn,sub,ab,col,dd,k0,k1,k2,k3,k5,_,XK _ _ ho,.of_isNs (PySem.W.isNs_of_in XK hok),PySem.W.nsMap_none_of_in XK hok hni,PySem.W.tail_of_in XK ht⟩
    . cases q
  . cases q
noncomputable def pU (EX:aP->aY) (C:Addr) (t:pL):bL:=fun _ ρ G=>t ρ G fun ds G1=>ds.length<=sizeLine/\EX ρ C G1
theorem apL (hc:X.calm=true) (Fn:ExcBaseFacts Bn newId inN bmN) (hBn:bmB.contains (.type Bn)=true) (FB:ExcBaseFacts B nid initId bmB) (hg:Gl X x) (hm:X.mg x=some (.ref C)) (hq:ju X.K C bmB newId=true) (hT:Thr X EX)
    (ha:PA3 X (e :: es) t) (hd:(x == ("__debug__" : Str))=false:=by decide)
    (he:starEach (e :: es) X.env=(false,eval e X.env) :: starEach es X.env:=by rfl) (hplain:(backTo cpos (starEach es X.env)).any (·.1)=false:=by rfl) :
    PS3 X (.Raise (some (.Call (.Name x np) (e :: es) [] cpos)) none pos) (pU EX C t):=by
  intro pins s σ H F I h _tk;obtain ⟨ρ,G,E3,sr,g,q,dd⟩:=h;obtain ⟨tl,N,nm,q',bs,hdct,sn,sub,ab,col,dd',k0,k1,k2,k3,k5,mN,hC,hN,hni,T⟩:=a3F I.mod.kin hq
  refine wpAny_Raise_call_subU (C:=C) (nm:=nm) (q:=q') (N:=N) (bs:=bs) (bm:=tl) (hdct:=hdct) (sn:=sn) (sub:=sub) (ab:=ab) (col:=col) (dd:=dd') (k0:=k0) (k1:=k1) (k2:=k2) (k3:=k3) (k5:=k5)
    Fn hBn FB (mN:=mN) (T.hasType FB.hasBase) (I.ok.hd hc) (by rw [he];show (false || (backTo cpos (starEach es X.env)).any (·.1))=false;rw [hplain];rfl) hni (jX I hg hm ⟨rfl,?_⟩ hd)
  have hA:=ha cpos pins s σ H (fun vs H1=>Ts H H1/\∃ ds G1,bR X.K H1 ds vs/\HR X.K H1 G1/\ds.length<=sizeLine/\EX ρ C G1) I ⟨ρ,G,_,sr,g,q,fun vs H1 ds G1 t1 r1 g1 q1=>⟨t1,ds,G1,r1,g1,q1.1,q1.2⟩⟩;rw [he] at hA ⊢;refine Calls.evalArgs_plain (cR hA fun us s2 ⟨vs,H2,I2,r2,t1,ds,G1,r1,g1,hl,q1⟩=>?_);exact ⟨rfl,by rw [← r2.length,← r1.length];exact hl,I2.bk _ _ hC,hN.keeps I2.bk,T.keeps I2.bk,fun h' e' hm'=>hT.made pins σ H2 s2 ρ C e' us h' I2 (sr.mono t1) hm' ⟨C,G1,rfl,g1,q1⟩⟩
end
end
section
open PySem.W
theorem a08 {env:Env}:∀ (l:List (Str×NameKind)) (acc:List (Str×Addr)),l.filter (fun p=>p.2 == .free)=[]->(forIn l acc fun (p:Str×NameKind) (cs:List (Str×Addr))=>(if p.2 == .free then do let c ← cellOf env p.1;pure (ForInStep.yield ((p.1,c) :: cs)) else pure (ForInStep.yield cs):Sem (ForInStep (List (Str×Addr)))))=pure acc
  | [],acc,_=>rfl
  | p :: r,acc,h=>by
    rw [pq] at h;split at h
    . cases h
    . rename_i q;rw [qp,if_neg q,pure_bind];exact a08 r acc h
theorem a2J {env:Env} {x:Str} {cc:Addr} (hc:env.cells.lookup x=some cc):∀ (l:List (Str×NameKind)) (acc:List (Str×Addr)),l.filter (fun p=>p.2 == .free)=[(x,.free)]->(forIn l acc fun (p:Str×NameKind) (cs:List (Str×Addr))=>(if p.2 == .free then do let c ← cellOf env p.1;pure (ForInStep.yield ((p.1,c) :: cs)) else pure (ForInStep.yield cs):Sem (ForInStep (List (Str×Addr)))))=pure ((x,cc) :: acc)
  | [],acc,h=>by cases h
  | p :: r,acc,h=>by
    rw [pq] at h;split at h
    . rename_i q;have ⟨e1,e2⟩:=List.cons.inj h;subst e1;rw [qp,if_pos q];unfold cellOf;simp only [hc,pure_bind];exact a08 r _ e2
    . rename_i q;rw [qp,if_neg q,pure_bind];exact a2J hc r acc h
theorem vP (h:scope.names.filter (fun p=>p.2 == .free)=[(x,.free)]) (hc:env.cells.lookup x=some cc):closureFor scope env=pure [(x,cc)]:=by
  unfold closureFor;have:=a2J hc scope.names [] h;simp only [bind_pure];refine Eq.trans ?_ this;congr 1
theorem apM {a b:List Stmt} {t u:TS} (h1:PSs X a t) (h2:PSs X b u):PSs X (a++b) (auW t u):=by
  intro pins s σ H D I h _tk;rw [a1S];refine aj (cR (h1 pins s σ H { D with nx:=u D } I h) fun f s1 q=>?_);intro aAK;cases f with
  | next =>
    obtain ⟨σ',H',I',q⟩:=q;exact h2 pins s1 σ' H' D I' q
  | ret v=>exact aq q
  | brk=>exact aq q
  | cont=>exact aq q
theorem apO {K:Fg} (g:HR K H G) (n:H p=none) (kn:K.lookup p=none):G p=none:=by
  cases q:G p with
  | none=>rfl
  | some u =>
    have z:=g p u q;cases u with
    | lst ds=>obtain ⟨xs,e,_⟩:=z;rw [n] at e;cases e
    | rol ds =>
      obtain ⟨xs,e,_⟩:=z;rcases e with (e | ⟨o,e⟩) | ⟨o,_,_,e,_⟩
      . rw [n] at e;cases e
      . rw [n] at e;cases e
      . rw [kn] at e;cases e
    | lX tt kvs =>
      rcases z with ⟨_,xs,e,_⟩ | ⟨_,xs,e,_⟩
      . rw [n] at e;cases e
      . rw [n] at e;cases e
    | rdc ob tt kvs =>
      rcases z with ⟨_,xs,e,_⟩ | ⟨_,xs,e,_⟩
      . rw [n] at e;cases e
      . rw [n] at e;cases e
    | ins C fs=>obtain ⟨dx,vs,e,_⟩:=z;rw [n] at e;cases e
    | exn C=>obtain ⟨o,vs,e,_⟩:=z;rw [n] at e;cases e
    | kst ks=>obtain ⟨_,_,_,e,_⟩:=z;rw [n] at e;cases e
    | nst ks=>obtain ⟨_,_,_,e,_⟩:=z;rw [n] at e;cases e
    | tab q p=>obtain ⟨_,e,_⟩:=z;rw [n] at e;cases e
    | clo c d=>obtain ⟨_,_,_,_,_,_,_,_,e,_⟩:=z;rw [n] at e;cases e
    | tpl ds =>
      obtain ⟨xs,e,_⟩:=z;rcases e with (e | ⟨o,e⟩) | ⟨o,_,_,e,_⟩
      . rw [n] at e;cases e
      . rw [n] at e;cases e
      . rw [kn] at e;cases e
noncomputable def aC7 (n m:Nat) (tb:aY->bL) (T:Addr) (c:a06) (pos:Pos) (ix:Nat):kJ:=fun ds G R EX=>ds.length=m/\tb EX ⟨fun ρ G'=>ρ.length=n/\G' T=some (.tab c.qual pos)/\∃ d,at3 ρ ix=some d/\∀ f,G' f=none->R (.ref f) (aM G' f (.clo c d)),fun _ _=>False,fun _ _=>False,fun _ _=>False⟩ (fB n ds) G
variable {c:a06}
theorem awE {w:World} {K:Fg} {f cC T:Addr} {k ig ix:Nat} {pg pr:Pos} (F:v9 K x qual st f fd) (S:bD N ps (aH st))
    (hb:cA st=(pre++[.FunctionDef c.name c.params c.body [] none [] c.scope none c.name pos])++[.Return (some (.Name c.name pg)) pr]) (hd0:c.params.defaults=[]) (hk0:c.params.kw_defaults=[]) (ha:∀ env,annTrees c.params none env=[])
    (hq:qual ++ ".<locals>." ++ c.name=c.qual) (hfc:fd.code = .ref cC) (hC:CodeHd base cC T) (hbt:base.BuiltinsAt mg T) (hcf:c.scope.names.filter (fun p=>p.2 == .free)=[(c.x,.free)])
    (hig:N[ig]?=some c.name) (hgl:(aH st).names.lookup c.name=some .local) (hix:N[ix]?=some c.x) (hxc:(aH st).names.lookup c.x=some .cell) (hne:ig≠ix) (hdb:(c.name == ("__debug__" : Str))=false) (hcd:(c.name == ("__classdict__" : Str))=false)
    (hbody:∀ (cdv:Value) (A:Around) (outer:List Env) (s:Shared) (H:Hp) (E:XK) (EX:aY),cO qt k (A.deeper (envOfC qual (aH st) s.heap.objs.size f cdv))->UpX K EX E ->
      yI (cx1 qt P w K mg base N qual (aH st) f cdv A outer s H E) pre (tb EX)):cG qt P w K mg base (iK P w) (k+1) f fd ps (cY K (aC7 N.length ps.length tb T c pos ix)):=by
  obtain ⟨oc,od,dV,kV,doc,pm,an,cdv,ct,osl,rfl,lk,awF⟩:=F.ex;rw [hb] at lk ⊢;have ecd:cdv = .ref cC:=hfc;subst ecd;refine ak7 lk awF S (fun vs H Q E h=>?_) hig (.inl hgl) hix hxc hdb hcd fun A outer s H vs Q E hr hsp=>?_
  . obtain ⟨ds,G,R,EX,r,g,⟨hl,q⟩,_⟩:=h;rw [← r.length,hl]
  . obtain ⟨ds,G,R,EX,r,g,⟨hl,q⟩,kk,hE⟩:=hsp;obtain ⟨c0,e0⟩:=vH (n:=s.heap.objs.size+1) hxc
    have pf:=ap3 (X:=cx1 qt P w K mg base N qual (aH st) f (.ref cC) A outer s H E) (name:=c.name) (qual:=c.qual) (params:=c.params) (body:=c.body) (scope:=c.scope) (pos:=pos) (clos:=[(c.x,c0)]) (c:=cC) (T:=T) (i:=ig) hd0 hk0 (ha _) (by
      show (if (aH st).names.lookup c.name == some .globalExplicit then c.name else qual ++ ".<locals>." ++ c.name)=c.qual;rw [hgl];exact hq) hC hbt rfl (vP hcf e0) S.nd hig (.inl hgl) (.inl rfl)
    refine ⟨_,apM (hbody (.ref cC) A outer s H E EX hr hE) (a90 pf),fB N.length ds,G,_,?_,g,q,⟨fun ρ G' σ' H' s1 g1 q1=>?_,fun _ _ _ _ _ _ z=>z.elim,fun _ _ _ _ _ _ z=>z.elim,fun _ _ _ _ _ _ z=>z.elim⟩⟩
    . unfold fB start;rw [r.length];exact SR.entry r
    . obtain ⟨hρ,hT,d,hd,hR⟩:=q1;obtain ⟨ps1,eT,tst⟩:=g1 T _ hT;refine ⟨ps1,eT,tst,fun fA c' aH2 ctv ps' H2 kf ff hf rc hT2 aH3 kp=>?_⟩;obtain ⟨vv,e1,rd⟩:=s1.get hd
      have lσ:ig < σ'.length:=by
        rw [← s1.len,hρ];exact (cj.mp hig).1
      refine ⟨fA,vv,by rw [yd lσ],by rw [zj hne];exact e1,fun cc u ob ec rv hob hn=>?_⟩;have ecc:cc=c0:=by rw [e0] at ec;exact (gw.inj ec).symm
      subst ecc
      have ts:Ts H' (upd H2 cc (vA ob)):=by
        refine ⟨fun a xs q0=>?_,fun a o u q0=>?_⟩
        . have:=kp a _ (nR q0 eT (fun z=>by cases z)) q0;rw [aJ (aR this hn)];exact this
        . have:=kp a _ (nR q0 eT (fun z=>by cases z)) q0;rw [aJ (aR this hn)];exact this
      have up:∀ a u,H2 a=some u->upd H2 cc (vA ob) a=some u:=fun a u q=>by rw [aJ (aR q hn)];exact q
      have gf:G' fA=none:=apO g1 ff kf;refine kk (.ref fA) _ (.ref fA) _ (.ref fA) (fun a o q0=>?_) (hR fA gf);by_cases z:a=fA
      . subst z;rw [aD] at q0;cases q0;exact ⟨cc,c',aH2,_,ctv,ob,u,vv,up _ _ hf,rc.keep fun b o φ q=>up _ _ q,aF,hob,rv,rd.mono ts⟩
      . rw [aX z] at q0;by_cases y:a=T
        . rw [y,hT] at q0;cases q0;rw [y];exact ⟨ps',up _ _ hT2,aH3.keep fun b o φ q=>up _ _ q⟩
        . exact (g1 a o q0).keep ts fun u q=>up _ _ (kp a u y q)
structure Tq (H H':Hp):Prop where
  tups:∀ a xs,H a=some (.tup xs)->H' a=some (.tup xs)
  awG:∀ a o xs,H a=some (.nQ o (.tup xs))->H' a=some (.nQ o (.tup xs))
theorem Tq.sqT {K:Fg} (t:Tq H H') (h:uL K H a xs):uL K H' a xs:=by
  rcases h with (h | ⟨o,h⟩) | h
  . exact .inl (.inl (t.tups _ _ h))
  . exact .inl (.inr ⟨o,t.awG _ _ _ h⟩)
  . exact .inr h
mutual
theorem RD.pW {K:Fg} {H H':Hp} (t:Tq H H'):∀ {d:D} {v:V},RD K H d v->RD K H' d v
  | _,_,.non => .non
  | _,_,.bl b => .bl b
  | _,_,.int i => .int i
  | _,_,.str x => .str x
  | _,_,.ty n => .ty n
  | _,_,.ref a => .ref a
  | _,_,.tup h r e => .tup (t.sqT h) (bR.pW t r) trivial
theorem bR.pW {K:Fg} {H H':Hp} (t:Tq H H'):∀ {ds:List D} {vs:List V},bR K H ds vs->bR K H' ds vs
  | _,_,.nil => .nil
  | _,_,.cons h r => .cons (RD.pW t h) (bR.pW t r)
end
noncomputable def ab9:GO->Bool
  | .clo _ _=>true
  | _=>false
noncomputable def offC (G:Gp):Gp:=fun a=>match G a with
  | some o=>if ab9 o then none else some o
  | none=>none
noncomputable def onC (G G2:Gp):Gp:=fun a=>match G a with
  | some o=>if ab9 o then some o else G2 a
  | none=>G2 a
section
variable {K:Fg} {H:Hp} {cc:Addr} {ob:Obj} {u:Value}
theorem akI (hc:H cc=some (vA ob)):Tq H (yH H cc) :=
  ⟨fun a xs q=>by rw [nW (nR q hc (fun z=>by cases z))];exact q,fun a o xs q=>by rw [nW (nR q hc (fun z=>by cases z))];exact q⟩
theorem lK.yH {q:Str} (hc:H cc=some (vA ob)) (hob:ob.data = .cell (some u)) (r:lK H c' q):lK (yH H cc) c' q:=by
  obtain ⟨oc,vs,t,e,d,r⟩:=r;refine ⟨oc,vs,t,?_,d,r⟩;rw [nW (fun z=>by subst z;rw [hc] at e;cases e;rw [hob] at d;cases d)];exact e
theorem OR.yH {a:Addr} {o:GO} (hc:H cc=some (vA ob)) (hob:ob.data = .cell (some u)) (h:OR K H a o) (n:ab9 o=false):OR K (L2.yH H cc) a o:=by
  have t:=akI hc;have k:∀ v,H a=some v->v≠vA ob->L2.yH H cc a=some v:=fun v q ne=>by rw [nW (fun z=>by subst z;rw [hc] at q;exact ne (gw.inj q).symm)];exact q
  cases o with
  | lst ds=>obtain ⟨xs,e,r⟩:=h;exact ⟨xs,k _ e (fun z=>nomatch z),r.pW t⟩
  | rol ds =>
    obtain ⟨xs,e,r⟩:=h;refine ⟨xs,?_,r.pW t⟩;rcases e with (e | ⟨o,e⟩) | e
    . exact .inl (.inl (k _ e (fun z=>nomatch z)))
    . exact .inl (.inr ⟨o,k _ e (fun z=>by cases z)⟩)
    . exact .inr e
  | lX b kvs =>
    rcases h with ⟨z,xs,e,r⟩ | ⟨z,xs,e,r⟩
    . exact .inl ⟨z,xs,k _ e (fun z=>nomatch z),r.imp fun _ _ q=>⟨q.1,q.2.pW t⟩⟩
    . exact .inr ⟨z,xs,k _ e (fun z=>nomatch z),r.imp fun _ _ q=>⟨q.1,q.2.pW t⟩⟩
  | ins C fs=>obtain ⟨dx,vs,e,r⟩:=h;exact ⟨dx,vs,k _ e (fun z=>nomatch z),r.imp fun _ _ q=>⟨q.1,q.2.pW t⟩⟩
  | rdc ob b kvs =>
    rcases h with ⟨z,xs,e,r⟩ | ⟨z,xs,e,r⟩
    . exact .inl ⟨z,xs,k _ e (fun z=>by cases z),r.imp fun _ _ q=>⟨q.1,q.2.pW t⟩⟩
    . exact .inr ⟨z,xs,k _ e (fun z=>by cases z),r.imp fun _ _ q=>⟨q.1,q.2.pW t⟩⟩
  | exn C =>
    obtain ⟨o,vs,e,d,r⟩:=h;refine ⟨o,vs,?_,d,r⟩
    rw [nW (fun z=>by
      subst z;rw [hc] at e;have e:=gw.inj e;injection e with e1 e2;rw [← e1,hob] at d;cases d)]
    exact e
  | tpl ds=>obtain ⟨xs,e,r⟩:=h;exact ⟨xs,t.sqT e,r.pW t⟩
  | kst ks=>obtain ⟨P,w,xs,e,r,q⟩:=h;exact ⟨P,w,xs,k _ e (fun z=>nomatch z),r,fun x hx=>⟨(q x hx).1,t.sqT (q x hx).2⟩⟩
  | nst ks=>obtain ⟨P,w,xs,e,r,q⟩:=h;exact ⟨P,w,xs,k _ e (fun z=>nomatch z),r,fun x hx=>(q x hx).elim fun b z=>⟨b,t.sqT z.1,t.sqT z.2⟩⟩
  | tab q p =>
    obtain ⟨ps,e,r⟩:=h;refine ⟨ps,k _ e (fun z=>nomatch z),?_⟩;rcases r with r | ⟨c',e,r⟩
    . exact .inl r
    . exact .inr ⟨c',e,r.yH hc hob⟩
  | clo c d=>cases n
theorem HR.yH {G:Gp} (hc:H cc=some (vA ob)) (hob:ob.data = .cell (some u)) (g:HR K H G):HR K (L2.yH H cc) (offC G):=fun a o e=>by
  unfold offC at e;split at e
  . rename_i o' q;split at e
    . cases e
    . rename_i n;cases e;exact (g a _ q).yH hc hob (by simpa using n)
  . cases e
end
noncomputable def vQ (qt:Bool) (P:Program) (w:World) (K:Fg) (mg:Str->Option Value) (base:Heap) (k:Nat) (c:a06) (sp:kJ):Prop :=
  ∀ (A:Around) (outer:List Env) (s:Shared) (H:Hp) (us:List Value) (vs:List V) (ds:List D) (d:D) (G:Gp) (R:fM) (E:XK) (f:Addr),cO qt k A->vG P w K mg base A outer s H->A.handled=none->HR K H G->G f=some (.clo c d)->Vals vs us->bR K H ds vs->sp (d :: ds) (offC G) R (fun _ _=>False) ->
    codeAny (model P w) A (.call (.ref f) ⟨us,[]⟩) (CR (iK P w) outer P w H s (fun v H'=>∃ d' G2,RD K H' d' v/\HR K H' G2/\R d' G2) E) s
theorem awH {w:World} {K:Fg} {k:Nat} (S:ScX N ps c.x c.scope) (rD:∀ y∈c.scope.names,y.1=c.x->y.2 ≠ .cell)
    (hb:∀ (cl:List (Str×Addr)) (doc pm cdv ctv:Value) (us:List Value),us.length=ps.length->bindArgs (fnX c.name c.qual c.params c.body c.scope cl .none .none doc pm none cdv ctv) ⟨us,[]⟩=pure (ps.zip us))
    (hbody:∀ (f c' cc:Addr) (A:Around) (outer:List Env) (s:Shared) (H:Hp),cO qt k (A.deeper (fW c.qual c.scope s.heap.objs.size f (.ref c') [(c.x,cc)])) ->
      yI (cxX qt (iK P w) P w K mg base N c.qual c.scope f (.ref c') c.x cc A outer s H (fun _ _ _=>False)) c.body (tb fun _ _=>False)) :
    vQ qt P w K mg base (k+1) c (apH N.length (ps.length+1) tb):=by
  intro A outer s H us vs ds d G R E f hr e0 hh g hf rv rd hsp;obtain ⟨hl,hq⟩:=hsp;obtain ⟨cc,c',doc,pm,ctv,ob,u,vv,e1,e2,e3,e4,e5,e6⟩:=g f _ hf;have hl':vs.length=ps.length:=by rw [← rd.length];simpa using hl
  have t:=akI e3;refine ap5 S rD hr e0 e1 e2 e3 e4 e5 hh (.of_eq (hb _ _ _ _ _ us (by rw [← rv.length];exact hl'))) rv hl' (fun e s' z=>?_) fun hr2=>?_
  . obtain ⟨_,_,_,_,_,_,_,_,_,_,_,_,z⟩:=z;exact z
  . refine ⟨_,hbody f c' cc A outer s (L2.yH H cc) hr2,fB N.length (d :: ds),offC G,_,?_,g.yH e3 e4,hq,⟨fun ρ G' σ' H' s1 g1 q1 n=>?_,fun d' G' v H' r1 g1 q1 n=>?_,fun _ _ _ _ _ _ z=>z.elim,fun _ _ _ _ _ _ z=>z.elim⟩⟩
    . unfold fB start;rw [show (d :: ds).length=(vv :: vs).length by simp [rd.length]];exact SR.entry (.cons (e6.pW t) (rd.pW t))
    . exact ⟨.non,G',.non,g1.same (bH n),q1⟩
    . exact ⟨d',G',r1.mono (.same (bH n)),g1.same (bH n),q1⟩
section
variable {X:Cx} {k i:Nat} {c:a06} {sp:kJ} {y:Str} {p pos:Pos} {e:Expr} {es:List Expr} {t:pL}
noncomputable def a9G (i:Nat) (c:a06) (sp:kJ) (t:pL):cF:=fun ρ G R=>∃ f d,at3 ρ i=some (.ref f)/\G f=some (.clo c d)/\t ρ G fun ds G1=>G1 f=some (.clo c d)/\sp (d :: ds) (offC G1) (fun v G2=>R v (onC G1 G2)) (fun _ _=>False)
theorem apP (C:vQ qt X.prog X.w X.K X.mg X.base k c sp) (hr:cO qt k X.A) (hc:X.calm=true) (hN:X.N[i]?=some y) (hv:Vis X.env.scope y) (hdb:(y == ("__debug__" : Str))=false) (hcd:(y == ("__classdict__" : Str))=false) (ha:PA3 X (e :: es) t)
    (he:starEach (e :: es) X.env=(false,eval e X.env) :: starEach es X.env:=by rfl) (hpl:(backTo pos (starEach es X.env)).any (·.1)=false:=by rfl):cI X (.Call (.Name y p) (e :: es) [] pos) (a9G i c sp t):=by
  intro pins s σ H Q I h _tk;obtain ⟨ρ,G,R,sr,g,⟨f,d,h1,h2,q⟩,kk⟩:=h;obtain ⟨v,e1,rd⟩:=sr.get h1;cases rd;obtain ⟨m,hn,hl⟩:=I.loc;obtain ⟨u,r,l⟩:=hl i y _ hN e1 hv;obtain rfl:u=Value.ref f:=r
  have aCA:∀ {H:Hp} {s:Shared} {G:Gp},Inv X pins σ H s->HR X.K H G->G f=some (.clo c d)->FnAt f s.heap:=fun {H s G} I g h=>by
    obtain ⟨cc,c',doc,pm,ctv,ob,u,vv,z,_⟩:=g f _ h;exact ⟨_,_,_,_,(I.hok f _ z).1⟩
  have main:wpAny (model X.prog X.w) X.A (callWith pos (.ref f) [] (backTo pos (starEach (e :: es) X.env)) []) (EP X pins σ Q) X.xe s:=by
    refine callWith_F (aCA I g h2) (cR (ha pos pins s σ H (fun vs H1=>Ts H H1/\∃ ds G1,bR X.K H1 ds vs/\HR X.K H1 G1/\G1 f=some (.clo c d)/\sp (d :: ds) (offC G1) (fun v G2=>R v (onC G1 G2)) (fun _ _=>False)) I ⟨ρ,G,_,sr,g,q,fun vs H1 ds G1 t1 r1 g1 q1=>⟨t1,ds,G1,r1,g1,q1⟩⟩) fun us s1 ⟨vs,H1,I1,r,t1,ds,G1,r1,g1,h3,q1⟩=>⟨aCA I1 g1 h3,?_⟩) he hpl;refine wpAny_call (codeAny_mono (C X.A X.stack s1 H1 us vs ds d G1 _ (fun _ _ _=>False) f hr I1.env0 (I1.ok.hd hc) g1 h3 r r1 q1) fun r s' hq=>?_);cases r with
    | error e =>
      obtain ⟨_,_,_,_,_,_,_,_,_,_,_,_,z⟩:=hq;exact z.elim
    | ok fl =>
      cases fl with
      | ret u =>
        obtain ⟨v,H',os,bare,un,hok,r,d',G2,r2,g2,q2⟩:=hq;refine ⟨v,H',I1.call' (ch:=[]) os un hok bare (fun b z=>absurd z (by simp)),r,kk v H' d' (onC G1 G2) (t1.trans ⟨un.tups,un.dI⟩) r2 (fun a o z=>?_) q2⟩;unfold onC at z;split at z
        . rename_i o' q0;split at z
          . rename_i hcl;cases z;cases o with
            | clo c2 d2 =>
              have w:=g1 a _ q0;refine w.keep ⟨un.tups,un.dI⟩ fun uu qq=>?_;obtain ⟨_,_,_,_,_,_,_,_,ew,_⟩:=w;rw [ew] at qq;cases qq;exact un.dI _ _ _ ew
            | _=>cases hcl
          . exact g2 a o z
        . exact g2 a o z
      | next=>exact False.elim hq
      | brk=>exact False.elim hq
      | cont=>exact False.elim hq
  rcases l with ⟨hk,hm⟩ | ⟨hk,cc,hcc,hcell⟩
  . exact wpAny_Call_Name_kw (wpAny_Name (wpAny_loadName_local I.ok.kind hk hn hm main) hdb)
  . rcases hk with hk | hk
    . exact wpAny_Call_Name_kw (wpAny_Name (wpAny_loadName_cell I.ok.kind hk hcc hcell main) hdb)
    . exact wpAny_Call_Name_kw (wpAny_Name (wpAny_loadName_free I.ok.kind hk hcc hcell main hcd) hdb)
end
end
variable {B:Heap}{M:Model}{Dc:Addr}
section
noncomputable def a4Q:aP->Nat->aP
  | [],_=>[]
  | _ :: r,0=>none :: r
  | x :: r,n+1=>x :: a4Q r n
noncomputable def a1T:St->Nat->St
  | [],_=>[]
  | _ :: r,0=>none :: r
  | x :: r,n+1=>x :: a1T r n
theorem SR.clr {K:Fg} {H:Hp}:∀ {ρ:aP} {σ:St} (i:Nat),SR K H ρ σ->SR K H (a4Q ρ i) (a1T σ i)
  | _,_,_,.nil => .nil
  | _,_,0,.none r => .none r
  | _,_,0,.some _ r => .none r
  | _,_,i+1,.none r => .none (SR.clr i r)
  | _,_,i+1,.some h r => .some h (SR.clr i r)
theorem abA:∀ (σ:St) (i:Nat),(a1T σ i).length=σ.length
  | [],_=>rfl
  | _ :: _,0=>rfl
  | _ :: r,i+1=>congrArg (·+1) (abA r i)
theorem abB:∀ (σ:St) (i j:Nat) (v:V),(a1T σ i)[j]?=some (some v)->j≠i/\σ[j]?=some (some v)
  | [],_,_,_,h=>by simp [a1T] at h
  | _ :: _,0,0,_,h=>by simp [a1T] at h
  | _ :: _,0,j+1,_,h=>⟨by omega,by simpa [a1T] using h⟩
  | _ :: _,i+1,0,_,h=>⟨by omega,by simpa [a1T] using h⟩
  | _ :: r,i+1,j+1,v,h=>by
    obtain ⟨a,b⟩:=abB r i j v (by simpa [a1T] using h);exact ⟨by omega,by simpa using b⟩
variable {x:Addr}{n:Str}
section
variable {X:Cx}
noncomputable def xeT (X:Cx) (EX:aP->aY):Value->Shared->Prop:=fun e s'=>∃ pins σ H s ρ,Inv X pins σ H s/\SR X.K H ρ σ/\iK X.prog X.w X.stack H s (a2I X.K (EX ρ)) e s'
noncomputable abbrev apQ (X:Cx) (pn:List (Addr×Obj)) (EX:aP->aY):Cx:={ X with pn:=X.pn++pn,xe:=xeT { X with pn:=X.pn++pn } EX }
noncomputable abbrev aiA (X:Cx) (x:Addr):Cx:={ X with A:=X.A.mark (some (.ref x)),calm:=false,xe:=fun _ _=>False,need:=false }
theorem aCC (ok:X.Ok) (pn:List (Addr×Obj)) (E:Value->Shared->Prop):({ X with pn:=pn,xe:=E }:Cx).Ok :=
  ⟨ok.mod,ok.kind,ok.glob,ok.blt,ok.above,ok.inj,ok.has,ok.cab,ok.hd,ok.frames,ok.stk,ok.exf,ok.bs,ok.bsz,ok.a2V,ok.a3V,ok.mQ,ok.frf⟩
theorem apR {σ:St} (I:Inv X pins σ H s) (E:Value->Shared->Prop):Inv ({ X with pn:=X.pn++pins,xe:=E }:Cx) [] σ H s :=
  ⟨aCC I.ok _ _,I.os,I.bare,I.base,I.loc,I.cell,I.free,I.fZ,fun p hp=>I.pin p (by simpa using hp),I.hok,I.len,I.hnd,I.tup⟩
theorem rE {vC:List (Addr×Obj)} {σ:St} (I:Inv ({ X with pn:=X.pn++pins,xe:=E }:Cx) vC σ H s):Inv X pins σ H s :=
  ⟨⟨I.ok.mod,I.ok.kind,I.ok.glob,I.ok.blt,I.ok.above,I.ok.inj,I.ok.has,I.ok.cab,I.ok.hd,I.ok.frames,I.ok.stk,I.ok.exf,I.ok.bs,I.ok.bsz,I.ok.a2V,I.ok.a3V,I.ok.mQ,I.ok.frf⟩,I.os,I.bare,I.base,I.loc,I.cell,I.free,I.fZ,fun p hp=>I.pin p (vg _ hp),I.hok,I.len,I.hnd,I.tup⟩
theorem afT {σ:St} (I:Inv X pins σ H s) (x:Addr) (q:Hnd (X.A.mark (some (.ref x))) H):Inv (aiA X x) pins σ H s :=
  ⟨⟨I.ok.mod,I.ok.kind,I.ok.glob,I.ok.blt,I.ok.above,I.ok.inj,I.ok.has,I.ok.cab,(fun z=>nomatch z),I.ok.frames,I.ok.stk,I.ok.exf,I.ok.bs,I.ok.bsz,I.ok.a2V,I.ok.a3V,I.ok.mQ,I.ok.frf⟩,I.os,I.bare,I.base,I.loc,I.cell,I.free,I.fZ,I.pin,I.hok,I.len,q,I.tup⟩
theorem xM {σ:St} (ok:X.Ok) (hn:X.A.handled=none) (I:Inv (aiA X x) pins σ H s):Inv X pins σ H s :=
  ⟨ok,I.os,I.bare,I.base,I.loc,I.cell,I.free,I.fZ,I.pin,I.hok,I.len,.inl hn,I.tup⟩
theorem aH4 (pn:List (Addr×Obj)) (EX:aP->aY):Cat (apQ X pn EX) EX:=⟨fun pins σ H s ρ e s' I sr c =>
  ⟨pins,σ,H,s,ρ,⟨⟨I.ok.mod,I.ok.kind,I.ok.glob,I.ok.blt,I.ok.above,I.ok.inj,I.ok.has,I.ok.cab,I.ok.hd,I.ok.frames,I.ok.stk,I.ok.exf,I.ok.bs,I.ok.bsz,I.ok.a2V,I.ok.a3V,I.ok.mQ,I.ok.frf⟩,I.os,I.bare,I.base,I.loc,I.cell,I.free,I.fZ,I.pin,I.hok,I.len,I.hnd,I.tup⟩,sr,c⟩⟩
theorem awI {P:Program} {w:World} {h2:Heap} (fl:Fly B l x (.ref C) s'.heap) (cov:∀ b o,s.heap.get? b=some o->H b=none->b ∉ frs l->B.get? b=some o)
    (adU:∀ b o,s.heap.get? b=some o->b ∉ frs l->∃ o',B.get? b=some o') (un:Un (frs l) [] H H' s.heap s'.heap) (st:B.StaysIn h2) (up:s'.heap.UpToSlots h2):Un (frs l) [] H H' s.heap h2:=by
  have hfd:∀ b∈frs l,∀ o,s'.heap.get? b=some o->∀ vs,o.data ≠ .fields vs:=fun b hb o e=>by
    obtain ⟨_,o',ho',hd⟩:=fl.auF.mem hb;rw [e] at ho';cases ho';exact hd
  refine ⟨fun b o eb nb hb _=>st b o (cov b o eb nb hb),fun b o eb nb hb hx=>?_,un.free,fun b o eb hx=>?_,un.tups,un.dI,un.mL⟩
  . obtain ⟨sl,e1⟩:=un.slot b o eb nb hb hx;obtain ⟨sl2,e2⟩:=up b _ e1 (hfd b hb _ e1);exact ⟨sl2,e2⟩
  . by_cases hb:b∈frs l
    . obtain ⟨o2,e2⟩:=un.there b o eb hx;obtain ⟨sl,e3⟩:=up b o2 e2 (hfd b hb o2 e2);exact ⟨_,e3⟩
    . obtain ⟨o2,e2⟩:=adU b o eb hb;exact ⟨o2,st b o2 e2⟩
theorem a3G {σ:St} {Q:Unit->Shared->Prop} (I:Inv X pins σ H s) (hN:X.N.Nodup) (hi:X.N[i]?=some n) (hl:X.env.kindOf n=some .local)
    (h:∀ s',Inv X pins (a1T σ i) H s'->Q () s'):wpAny M A (do bindName X.env n .none;unbindBehindTheSuite X.env n pos) Q E s:=by
  obtain ⟨m,hn,hlo⟩:=id I.loc;have cne:=I.cne;refine wpAny_nameGoes_keeps hl hn (by rw [I.ok.kind];rfl) fun h' v hn' hs=>?_;obtain ⟨oL,_,_,hoL,_⟩:=id hn;refine h _ ⟨I.ok,I.os,I.bare,⟨fun b o e n hb hx=>?_,fun b o e n hb hx=>?_,I.base.free,fun b o e hx=>?_,I.base.tups,I.base.dI,I.base.mL⟩,⟨_,hn',fun j y v' e1 e2 e3=>?_⟩,fun y c e=>?_,I.free,I.fZ,fun p hp=>?_,fun b ob e=>?_,(abA σ i).trans I.len,I.hnd,I.tup⟩
  . exact (hs.2 b (dw (dg (cu e) I.ok.above))).trans (I.base.keep b o e n hb hx)
  . obtain ⟨sl,e1⟩:=I.base.slot b o e n hb hx;exact ⟨sl,(hs.2 b (dw (dg (cu e) I.ok.above))).trans e1⟩
  . obtain ⟨o',e1⟩:=I.base.there b o e hx;exact ⟨o',(hs.2 b (dw (dg (cu e) I.ok.above))).trans e1⟩
  . obtain ⟨hj,e2'⟩:=abB σ i j v' e2;obtain ⟨u',r',q⟩:=hlo j y v' e1 e2' e3;refine ⟨u',r',?_⟩;rcases q with ⟨k,e⟩ | ⟨k,c,e,z⟩
    . refine .inl ⟨k,?_⟩;have:y≠n:=fun e=>hj (a3W hN e1 (e ▸ hi));simp [this,e]
    . exact .inr ⟨k,c,e,z.sameBut hs (cne y c e)⟩
  . obtain ⟨w',z⟩:=I.cell y c e;exact ⟨w',z.sameBut hs (cne y c e)⟩
  . obtain ⟨e,n,ne,nf,d⟩:=I.pin p hp;exact ⟨(hs.2 p.1 ne).trans e,n,ne,nf,d⟩
  . refine (I.hok b ob e).stay (fun c w' hc q=>(hs.2 c ?_).trans q) (fun _ q=>q) fun _ _ q=>q;rintro rfl;have hfree:=I.free;rcases hc with z | hc
    . rw [z,e] at hfree;cases hfree
    . rw [hfree] at hc;cases hc
theorem aH5 {K:Fg} {oe:Obj} {b:Bool} {Q:Bool->Shared->Prop} (KX:K.In s.heap) (he:s.heap.get? x=some oe) (hcls:oe.cls = .ref C)
    (hc:(jj K Dc).isSome=true) (ht:jz K (.ref Dc)=some (.type "type")) (hb:je K (.ref Dc) (.type "BaseException")=some true) (hs:je K (.ref C) (.ref Dc)=some b) (h:Q b s):wpAny M A (excMatches (.ref x) (.ref Dc)) Q E s:=by
  have l1:kh M s.heap (typeOf (.ref Dc)) (.type "type"):=PySem.W.looks_typeIn KX ht;have l2:kh M s.heap (isSubtype (.ref Dc) (.type "BaseException")) true:=PySem.W.looks_subIn KX hb;have l3:kh M s.heap (isSubtype (.ref C) (.ref Dc)) b:=PySem.W.looks_subIn KX hs
  have l4:kh M s.heap (typeOf (.ref x)) (.ref C):=by
    have z:=(kh.ld (M:=M) (part:=none) he).andThen (f:=fun o=>pure o.cls) (b := .ref C) (by rw [hcls];exact .now);exact z
  have l0:kh M s.heap (isSubtype (.type "type") (.type "tuple")) false := .of_pure tc_notTuple
  have lt:kh M s.heap (isType (.ref Dc)) true:=by
    intro A' Q' E' s' k q;cases eK:jj K Dc with
    | none=>rw [eK] at hc;cases hc
    | some cd =>
      unfold jj at eK;split at eK
      . rename_i ho;unfold isType loadHead;exact aj (wpAny_loadPart (k _ _ (KX _ _ ho)) (aq q))
      . cases eK
  unfold excMatches isInstance isExcClass
  repeat (first | with_reducible refine kh.here l0 ?_ | with_reducible refine kh.here l1 ?_ | with_reducible refine kh.here l2 ?_ | with_reducible refine kh.here l3 ?_ | with_reducible refine kh.here l4 ?_ | with_reducible refine kh.here lt ?_ | wp_step)
  cases b <;> (wp_walk;exact h)
noncomputable def abC (K:Fg) (Dc:Addr) (i:Nat) (tb:(aP->aY)->bL) (th:bL):bL:=fun F ρ G =>
  tb (fun ρ1 C G1=>je K (.ref C) (.ref Dc)=some true/\∀ x,G1 x=none->th { nx:=fun ρ2 G2=>F.nx (a4Q ρ2 i) G2,rt:=F.rt,bk:=fun ρ2 G2=>F.bk (a4Q ρ2 i) G2,ct:=fun ρ2 G2=>F.ct (a4Q ρ2 i) G2 } (sH ρ1 i (.ref x)) (aM G1 x (.exn C))) F ρ G
theorem akJ {EX:aP->aY} {f:Flow} (h:SP (apQ X pins EX) [] F f s):SP X pins F f s:=by
  cases f with
  | next=>obtain ⟨σ',H',I,q⟩:=h;exact ⟨σ',H',rE I,q⟩
  | brk=>obtain ⟨σ',H',I,q⟩:=h;exact ⟨σ',H',rE I,q⟩
  | cont=>obtain ⟨σ',H',I,q⟩:=h;exact ⟨σ',H',rE I,q⟩
  | ret u=>obtain ⟨v,σ',H',I,r,q⟩:=h;exact ⟨v,σ',H',rE I,r,q⟩
theorem abD {w:World} (hok:qL P w H B) (n:B.get? x=none):H x=none:=by
  cases e0:H x with
  | none=>rfl
  | some o =>
    have lt:=(hok x o e0)
    obtain ⟨o',ho'⟩:∃ o',B.get? x=some o':=by
      cases o with
      | lst xs=>obtain ⟨_,_,_,_,e⟩:=lt;exact ⟨_,e⟩
      | tup xs=>obtain ⟨_,_,_,o,e,_⟩:=lt;exact ⟨_,e⟩
      | dK kvs=>obtain ⟨_,_,_,_,o,_,_,e,_⟩:=lt;exact ⟨_,e⟩
      | dT kvs=>obtain ⟨_,_,_,_,o,_,_,e,_⟩:=lt;exact ⟨_,e⟩
      | set S n=>obtain ⟨o,_,_,_,e,_⟩:=lt;exact ⟨_,e⟩
      | ins C dx fs=>obtain ⟨_,_,_,e,_⟩:=lt;exact ⟨_,e⟩
      | own y=>obtain ⟨_,e⟩:=lt;exact ⟨_,e⟩
      | xd fs=>obtain ⟨_,⟨_,_,_,e,_⟩,_⟩:=lt;exact ⟨_,e⟩
      | rng lo hi=>obtain ⟨_,_,_,e⟩:=lt;exact ⟨_,e⟩
      | nQ ob u=>obtain ⟨e,_⟩:=lt;exact ⟨_,e⟩
      | vB ps=>exact ⟨_,(show B.get? x=some _ from lt)⟩
      | met f y=>exact ⟨_,(show B.get? x=some _ from lt)⟩
      | ext φ=>obtain ⟨_,⟨_,e⟩,_⟩:=lt;exact ⟨_,e⟩
    rw [n] at ho';cases ho'
theorem aCD {b₀:Stmt} {suite:List Stmt} {cx:Str} {tb:(aP->aY)->bL} {th:bL} {cp hpos:Pos}
    (hcm:X.calm=true) (hN:X.N.Nodup) (hi:X.N[i]?=some n) (hl:X.env.kindOf n=some .local) (hst:X.stack=X.env :: X.outer) (hfn:X.env.frame=some X.env.locals)
    (hg:Gl X cx) (hm:X.mg cx=some (.ref Dc)) (hc:(jj X.K Dc).isSome=true) (ht:jz X.K (.ref Dc)=some (.type "type")) (hbx:je X.K (.ref Dc) (.type "BaseException")=some true)
    (hb:∀ pn EX,yI (apQ X pn EX) body (tb EX)) (hh:∀ x,yI (aiA X x) (b₀ :: suite) th) (hd:(cx == ("__debug__" : Str))=false:=by decide) :
    PS3 X (.Try body [.ExceptHandler (some (.Name cx cp)) (some n) (b₀ :: suite) hpos] [] [] pos) (abC X.K Dc i tb th):=by
  intro pins s σ H F I h _tk;obtain ⟨ρ,G,E3,sr,g,q,d⟩:=h;refine wpAny_Try_except (wpAny_mono (hb pins _ [] s σ H F (apR I _) ⟨ρ,G,E3,sr,g,q,d⟩) (fun f s1 q1=>?_) fun e s1 q1=>?_)
  . have q2:=akJ q1;cases f with
    | next=>exact wpAny_execs_nil q2
    | brk=>exact q2
    | cont=>exact q2
    | ret u=>exact q2
  . obtain ⟨vC,σ1,H1,s0,ρ1,I1,sr1,x,C,H',B,rfl,fl,hok,cov,adU,un,os,bare,c,G',e2,g',hsub,hth⟩:=q1;cases e2;have J1:Inv X pins σ1 H1 s0:=rE I1;have hn:X.A.handled=none:=I.ok.hd hcm;have hfr:X.A.frames=some (X.env :: X.outer):=by rw [← hst];exact I.ok.frames
    have fl':Fly B (X.env :: X.outer) x (.ref C) s1.heap:=by rw [← hst];exact fl
    refine afC (B:=B) hfr hfn fl' fun h4 aCE sm4=>?_;refine a3B aCE fun h5 fl5 sm5=>?_;have hxB:B.get? x=none:=fl.new;have nxH:H' x=none:=abD hok hxB
    have track:∀ (h6:Heap) (oe:Obj) (ws:Array Value),Fly B (X.env :: X.outer) x (.ref C) h6->s1.heap.UpToSlots h6->h6.get? x=some oe->oe.cls = .ref C->oe.data = .fields ws ->
        Inv X pins σ1 (upd H' x (.nQ oe (.ext (yM C x)))) { s1 with heap:=h6 }/\Ts H1 (upd H' x (.nQ oe (.ext (yM C x)))):=by
      intro h6 oe ws fl6 sm aiB akK a81;have un6:=awI (P:=X.prog) (w:=X.w) fl cov adU un fl6.stays sm
      have nx0:s0.heap.get? x=none:=by
        cases e0:s0.heap.get? x with
        | none=>rfl
        | some o =>
          by_cases hx:x∈frs X.stack
          . obtain ⟨_,o',ho',hd'⟩:=fl6.auF.mem (by rw [← hst];exact hx);rw [aiB] at ho';cases ho';exact absurd a81 (hd' ws)
          . obtain ⟨o',ho'⟩:=adU x o e0 hx;rw [hxB] at ho';cases ho'
      have sn:Same H' (upd H' x (.nQ oe (.ext (yM C x)))):=bH nxH;have nst:∀ b o,s0.heap.get? b=some o->b≠x:=fun b o e z=>by subst z;rw [nx0] at e;cases e
      have un7:Un (frs X.stack) [] H1 (upd H' x (.nQ oe (.ext (yM C x)))) s0.heap h6:=⟨un6.keep,un6.slot,fun b o e n hx=>by rw [aJ (nst b o e)];exact un6.free b o e n hx,un6.there,fun b xs z=>sn _ _ (un6.tups b xs z),fun b o u z=>sn _ _ (un6.dI b o u z),fun b ps z=>by
        obtain ⟨m,e⟩:=un6.mL b ps z;exact ⟨m,sn _ _ e⟩⟩
      have aH8:qL X.prog X.w (upd H' x (.nQ oe (.ext (yM C x)))) h6:=fun b o e=>by
        by_cases hb:b=x
        . subst hb;rw [aF] at e;cases e;refine ⟨aiB,⟨oe,ws,aiB,akK,a81⟩,⟨oe,aiB⟩,fun h1 h2 ⟨o1,w1,e1,e2,e3⟩ k=>⟨o1,w1,k _ e1,e2,e3⟩⟩
        . rw [aJ hb] at e;exact ((hok.kept fl6.stays) b o e).stay (fun _ _ _ z=>z) (fun c z=>sn _ _ z) fun c xs z=>sn _ _ z
      exact ⟨J1.call' (ch:=[]) (s':={ s1 with heap:=h6 }) os un7 aH8 bare (fun b z=>absurd z (by simp)),un7.tups,un7.dI⟩
    obtain ⟨oe,ws5,hoe,hoec,hoed,aH9⟩:=fl5.fld;obtain ⟨J5,_⟩:=track h5 oe ws5 fl5 (sm4.trans sm5) hoe hoec hoed;refine wpAny_handleBy_cons (codeAny_handlers_test ?_) (by intro q;cases q);refine jX (X:=aiA X x) (afT J5 x (.inr ⟨x,oe,_,ws5,rfl,aF,hoed,aH9⟩)) hg hm ?_ hd;refine aH5 (K:=X.K) J5.kIn hoe hoec hc ht hbx hsub ?_;refine codeAny_handlers_suite_as ?_;refine a3B fl5 fun h6 fl6 sm6=>?_;obtain ⟨oe6,ws,aiB,akK,a81,at7⟩:=fl6.fld;obtain ⟨J7,tt⟩:=track h6 oe6 ws fl6 ((sm4.trans sm5).trans sm6) aiB akK a81;have gx:G' x=none:=iJ (K:=X.K) g' nxH (uP (X:=X) J7);refine vD (X:=aiA X x) (afT J7 x (.inr ⟨x,oe6,_,ws,rfl,aF,a81,at7⟩)) hN hi (.inl hl) (v := .ref x) (u := .ref x) rfl (fun s8 J8=>?_) (.inr hl);have q8:=hth x gx
    refine wpAny_mono (hh x pins s8 _ _ { nx:=fun σ2 H2=>F.nx (a1T σ2 i) H2,rt:=F.rt,bk:=fun σ2 H2=>F.bk (a1T σ2 i) H2,ct:=fun σ2 H2=>F.ct (a1T σ2 i) H2 } J8
      ⟨sH ρ1 i (.ref x),aM G' x (.exn C),_,(sr1.mono tt).set (.ref x) i,g'.put (u := .exn C) nxH ⟨oe6,ws,aF,a81,at7⟩,q8,⟨fun ρ2 G2 σ2 H2 s2 g2 z=>d.nx _ G2 _ H2 (s2.clr i) g2 z,d.rt,fun ρ2 G2 σ2 H2 s2 g2 z=>d.bk _ G2 _ H2 (s2.clr i) g2 z,fun ρ2 G2 σ2 H2 s2 g2 z=>d.ct _ G2 _ H2 (s2.clr i) g2 z⟩⟩) (fun f s9 q9=>?_) fun _ _ z=>z.elim
    cases f with
    | next=>obtain ⟨σ2,H2,I2,z⟩:=q9;exact a3G (xM J7.ok hn I2) hN hi hl fun s10 I10=>⟨_,H2,I10,z⟩
    | brk=>obtain ⟨σ2,H2,I2,z⟩:=q9;exact a3G (xM J7.ok hn I2) hN hi hl fun s10 I10=>⟨_,H2,I10,z⟩
    | cont=>obtain ⟨σ2,H2,I2,z⟩:=q9;exact a3G (xM J7.ok hn I2) hN hi hl fun s10 I10=>⟨_,H2,I10,z⟩
    | ret u=>obtain ⟨v,σ2,H2,I2,r2,z⟩:=q9;exact a3G (xM J7.ok hn I2) hN hi hl fun s10 I10=>⟨v,_,H2,I10,r2,z⟩
end
end
variable {vx vy:V}
section
section
variable {X:Cx} {a b c:Expr} {ta tb tc:cF} {pos:Pos}
noncomputable def afU (t:cF):cF:=fun ρ G R=>t ρ G fun x G1=>match x with
  | .int i=>R (.int (-i)) G1
  | _=>False
theorem aCF (ha:cI X a ta):cI X (.UnaryOp .USub a pos) (afU ta):=PE.imp (aAX av9 ha) fun σ H Q h=>by
  obtain ⟨ρ,G,R,s,g,t,k⟩:=h;refine ⟨ρ,G,_,s,g,t,fun v H1 x G1 t1 r g1 q=>?_⟩;cases r with
  | int i=>exact ⟨i,rfl,k _ H1 _ G1 t1 (.int _) g1 q⟩
  | _=>exact False.elim q
noncomputable def aO:Nat->D->Bool
  | 0,.tup _=>false
  | n+1,.tup xs=>xs.all (aO n)
  | _,.ref _=>false
  | _,.ty _=>false
  | _,_=>true
mutual
noncomputable def eqP:D->D->Bool
  | .non,.non=>true
  | .bl a,.bl b=>a == b
  | .bl a,.int b=>(if a then 1 else 0) == b
  | .int a,.bl b=>a == (if b then 1 else 0)
  | .int a,.int b=>a == b
  | .str a,.str b=>a == b
  | .tup xs,.tup ys=>jJ xs ys
  | _,_=>false
noncomputable def jJ:List D->List D->Bool
  | [],[]=>true
  | x :: xs,y :: ys=>eqP x y&&jJ xs ys
  | _,_=>false
end
noncomputable def sJ (xs ys:List D) (j:Nat):Bool:=match xs[j]?,ys[j]? with
  | some a,some b=>eqP a b
  | _,_=>false
theorem a4R (n:Nat) (e:Nat->Bool):(gk (n+1)).all e=(e 0&&(gk n).all fun j=>e (j+1)):=by
  rw [List.range_succ_eq_map,mq,List.all_map];rfl
theorem jK:∀ (xs ys:List D),jJ xs ys=((gk (min xs.length ys.length)).all (sJ xs ys)&&xs.length == ys.length)
  | [],[]=>rfl
  | [],y :: ys=>by simp [jJ]
  | x :: xs,[]=>by simp [jJ]
  | x :: xs,y :: ys=>by
    have ih:=jK xs ys;have e:min (x :: xs).length (y :: ys).length=min xs.length ys.length+1:=by simp only [lq];omega
    rw [jJ,ih,e,a4R];have e0:sJ (x :: xs) (y :: ys) 0=eqP x y:=rfl
    have e1:(fun j=>sJ (x :: xs) (y :: ys) (j+1))=sJ xs ys:=by
      funext j;simp [sJ]
    have e2:((x :: xs).length == (y :: ys).length)=(xs.length == ys.length):=by
      simp only [lq];by_cases h:xs.length=ys.length
      . simp [h]
      . have h':¬ (xs.length+1=ys.length+1):=by omega
        simp [h,h']
    rw [e0,e1,e2,Bool.and_assoc]
theorem abE {xs ys:List D} (h:(xs.length != ys.length)=true):jJ xs ys=false:=by
  rw [jK];have:(xs.length == ys.length)=false:=by simpa using h
  rw [this,Bool.and_false]
theorem a82 {xs ys:List D} (h:xs.length=ys.length):jJ xs ys=(gk xs.length).all (sJ xs ys):=by
  rw [jK,h];simp
mutual
theorem RD.inj {pins:List (Addr×Obj)} {σ:St} {H:Hp} {s:Shared} (I:Inv X pins σ H s):∀ {n:Nat} {x y:D} {v:V},aO n x=true->aO n y=true->RD X.K H x v->RD X.K H y v->x=y
  | _,_,_,_,_,_,.non,.non=>rfl
  | _,_,_,_,_,_,.bl _,.bl _=>rfl
  | _,_,_,_,_,_,.int _,.int _=>rfl
  | _,_,_,_,_,_,.str _,.str _=>rfl
  | _,_,_,_,hx,_,.ty _,.ty _=>rfl
  | _,_,_,_,_,_,.ref _,.ref _=>rfl
  | n,_,_,_,hx,_,.ref _,.tup _ _ _=>by cases n <;> simp [aO] at hx
  | n,_,_,_,_,hy,.tup _ _ _,.ref _=>by cases n <;> simp [aO] at hy
  | 0,_,_,_,hx,_,.tup _ _ _,.tup _ _ _=>by simp [aO] at hx
  | n+1,_,_,_,hx,hy,.tup h1 r1 _,.tup h2 r2 _=>by
    have e:=I.a1L h1 h2;subst e;rw [bR.inj I (n:=n) (by simpa [aO] using hx) (by simpa [aO] using hy) r1 r2]
theorem bR.inj {pins:List (Addr×Obj)} {σ:St} {H:Hp} {s:Shared} (I:Inv X pins σ H s):∀ {n:Nat} {xs ys:List D} {vs:List V},(∀ x∈xs,aO n x=true)->(∀ y∈ys,aO n y=true)->bR X.K H xs vs->bR X.K H ys vs->xs=ys
  | _,_,_,_,_,_,.nil,.nil=>rfl
  | n,_,_,_,hx,hy,.cons h1 r1,.cons h2 r2=>by
    rw [RD.inj I (hx _ (by simp)) (hy _ (by simp)) h1 h2,bR.inj I (fun x m=>hx x (by simp [m])) (fun y m=>hy y (by simp [m])) r1 r2]
end
mutual
theorem abF:∀ {n:Nat} {x:D},aO n x=true->eqP x x=true
  | _,.non,_=>rfl
  | _,.bl b,_=>by simp [eqP]
  | _,.int b,_=>by simp [eqP]
  | _,.str b,_=>by simp [eqP]
  | n,.ref _,h=>by cases n <;> simp [aO] at h
  | n,.ty _,h=>by cases n <;> simp [aO] at h
  | 0,.tup _,h=>by simp [aO] at h
  | n+1,.tup xs,h=>by rw [eqP];exact xO (n:=n) (by simpa [aO] using h)
theorem xO:∀ {n:Nat} {xs:List D},(∀ x∈xs,aO n x=true)->jJ xs xs=true
  | _,[],_=>rfl
  | n,x :: xs,h=>by rw [jJ,abF (h x (by simp)),xO fun y m=>h y (by simp [m])];rfl
end
theorem Vals.akL {K:Fg} (r:bR K H ds xs) (v:Vals xs us) {j:Nat} (e:us[j]?=some u):∃ d x,ds[j]?=some d/\RD K H d x/\RelV x u:=by
  have hj:j < us.length:=(cj.mp e).1;have hj':j < xs.length:=by rw [v.length];exact hj
  have ex:xs[j]?=some xs[j]:=dh hj';obtain ⟨u',e1,r1⟩:=v.get ex;rw [e] at e1;cases e1;obtain ⟨d,e2,r2⟩:=r.apA ex;exact ⟨d,_,e2,r2,r1⟩
theorem vR {K:Fg} {n:Nat} {xs ys:List D} {vx vy:List V} {ws:List Value} (rx:bR K H xs vx) (ry:bR K H ys vy) (vx':Vals vx us) (vy':Vals vy ws)
    (ih:∀ x∈xs,∀ y∈ys,∀ (v w:V) (u t:Value),RD K H x v->RD K H y w->RelV v u->RelV w t->SeqAt.EqAt A s u t (eqP x y)) :
    ∀ j (h1:j < us.toArray.size) (h2:j < ws.toArray.size),SeqAt.EqAt A s us.toArray[j] ws.toArray[j] (sJ xs ys j):=by
  intro j h1 h2;have e1:us[j]?=some us.toArray[j]:=by simp [dh (show j < us.length by simpa using h1)]
  have e2:ws[j]?=some ws.toArray[j]:=by simp [dh (show j < ws.length by simpa using h2)]
  obtain ⟨d,x,f1,f2,f3⟩:=Vals.akL rx vx' e1;obtain ⟨d',y,g1,g2,g3⟩:=Vals.akL ry vy' e2;have e:sJ xs ys j=eqP d d':=by simp [sJ,f1,g1]
  rw [e];exact ih d (jk f1) d' (jk g1) x y _ _ f2 g2 f3 g3
noncomputable def scD:D->Bool
  | .non=>true
  | .bl _=>true
  | .int _=>true
  | .str _=>true
  | _=>false
theorem apS {K:Fg} {x y:D} {v:Value} (hx:scD x=true) (hy:scD y=true) (rx:RD K H x vx) (ry:RD K H y vy) (ru:RelV vx u) (rv:RelV vy v):SeqAt.EqAt A s u v (eqP x y):=by
  have fx:uN vx=true:=by cases rx <;> first | rfl | cases hx
  have fy:uN vy=true:=by cases ry <;> first | rfl | cases hy
  have e:eqV vx vy=eqP x y:=by cases rx <;> cases ry <;> first | (simp [eqV,eqP];done) | cases hx | cases hy
  rw [← e];exact a1Q ru rv fx fy
theorem vU {n:Nat} (h:A.units+(n+1) < cLine):A.in1.units+n < cLine:=by
  show A.units+1+n < cLine;omega
theorem a1U {σ:St} (I:Inv X pins σ H s):∀ (n:Nat) (A:Around) (x y:D) (vx vy:V) (u v:Value),A.units+n < cLine->aO n x=true->aO n y=true->RD X.K H x vx->RD X.K H y vy->RelV vx u->RelV vy v->SeqAt.EqAt A s u v (eqP x y):=by
  intro n
  induction n with
  | zero =>
    intro A x y vx vy u v hu hx hy rx ry ru rv;have sx:scD x=true:=by cases x <;> first | rfl | (simp [aO] at hx)
    have sy:scD y=true:=by cases y <;> first | rfl | (simp [aO] at hy)
    exact apS sx sy rx ry ru rv
  | succ n ih =>
    intro A x y vx vy u v hu hx hy rx ry ru rv;have hu0:A.units < cLine:=by omega
    cases rx with
    | @tup ax xs ds hax rax eax =>
      cases ru;obtain ⟨its,vv,px,_⟩:=I.tuple hax;cases ry with
      | @tup ay ys es hay ray eay =>
        cases rv;obtain ⟨jts,ww,py,_⟩:=I.tuple hay;by_cases hab:ax=ay
        . subst hab;have e:=RD.inj I (n:=n+1) hx hy (.tup hax rax eax) (.tup hay ray eay);rw [e,abF hy];exact SeqAt.EqAt.same _
        . refine SeqAt.EqAt.of_refs hab ?_
          have z:=SeqAt.RcAt.tuples (e:=sJ ds es) (show s.heap.IsTuple ax its.toArray from px) (show s.heap.IsTuple ay jts.toArray from py) hu0 (vR (n:=n) rax ray vv ww fun x mx y my v w u t r1 r2 r3 r4 =>
            ih A.in1 x y v w u t (vU hu) (fj.mp (by simpa [aO] using hx) x mx) (fj.mp (by simpa [aO] using hy) y my) r1 r2 r3 r4)
          have e:((gk (min its.toArray.size jts.toArray.size)).all (sJ ds es)&&its.toArray.size == jts.toArray.size)=eqP (.tup ds) (.tup es):=by
            rw [eqP,jK,bh,bh,← vv.length,← ww.length,← rax.length,← ray.length]
          rw [e] at z;exact z
      | non=>cases rv;exact SeqAt.EqAt.tuple_none (show s.heap.IsTuple ax its.toArray from px) hu0
      | bl b=>cases rv;exact SeqAt.EqAt.tuple_bool b (show s.heap.IsTuple ax its.toArray from px) hu0
      | int i=>obtain ⟨t,rfl⟩:=rv;exact SeqAt.EqAt.tuple_int i t (show s.heap.IsTuple ax its.toArray from px) hu0
      | str z=>obtain ⟨t,rfl⟩:=rv;exact SeqAt.EqAt.tuple_str z t (show s.heap.IsTuple ax its.toArray from px) hu0
      | ref _=>simp [aO] at hy
      | ty _=>simp [aO] at hy
    | ref _=>simp [aO] at hx
    | ty _=>simp [aO] at hx
    | non =>
      cases ry with
      | @tup ay ys es hay ray =>
        cases rv;cases ru;obtain ⟨jts,ww,py,_⟩:=I.tuple hay;exact SeqAt.EqAt.none_tuple (show s.heap.IsTuple ay jts.toArray from py) hu0
      | ref _=>simp [aO] at hy
      | ty _=>simp [aO] at hy
      | _=>exact a1Q ru rv rfl rfl
    | bl b =>
      cases ry with
      | @tup ay ys es hay ray =>
        cases rv;cases ru;obtain ⟨jts,ww,py,_⟩:=I.tuple hay;exact SeqAt.EqAt.bool_tuple b (show s.heap.IsTuple ay jts.toArray from py) hu0
      | ref _=>simp [aO] at hy
      | ty _=>simp [aO] at hy
      | _=>exact a1Q ru rv rfl rfl
    | int i =>
      cases ry with
      | @tup ay ys es hay ray =>
        cases rv;obtain ⟨t,rfl⟩:=ru;obtain ⟨jts,ww,py,_⟩:=I.tuple hay;exact SeqAt.EqAt.int_tuple i t (show s.heap.IsTuple ay jts.toArray from py) hu0
      | ref _=>simp [aO] at hy
      | ty _=>simp [aO] at hy
      | _=>exact a1Q ru rv rfl rfl
    | str z =>
      cases ry with
      | @tup ay ys es hay ray =>
        cases rv;obtain ⟨t,rfl⟩:=ru;obtain ⟨jts,ww,py,_⟩:=I.tuple hay;exact SeqAt.EqAt.str_tuple z t (show s.heap.IsTuple ay jts.toArray from py) hu0
      | ref _=>simp [aO] at hy
      | ty _=>simp [aO] at hy
      | _=>exact a1Q ru rv rfl rfl
end
end
variable {a1 a2:Addr}
section
section
variable {X:Cx}
theorem aHC {σ:St} (I:Inv X pins σ H s) (n:Nat) (A:Around) (x y:D) (vx vy:V) (u v:Value) (hu:A.units+(n+1) < cLine) (hx:aO (n+1) x=true) (hy:aO (n+1) y=true) (rx:RD X.K H x vx) (ry:RD X.K H y vy) (ru:RelV vx u) (rv:RelV vy v):SeqAt.RcAt A s u v (eqP x y):=by
  have hu0:A.units < cLine:=by omega
  cases rx with
  | non =>
    cases ru;cases ry with
    | non =>
      cases rv
      first | exact SeqAt.RcAt.none_none | (simp only [eqP];exact SeqAt.RcAt.none_none)
    | bl b2 =>
      cases rv
      first | exact SeqAt.RcAt.none_bool b2 | (simp only [eqP];exact SeqAt.RcAt.none_bool b2)
    | int i2 =>
      obtain ⟨t2,rfl⟩:=rv
      first | exact SeqAt.RcAt.none_int i2 t2 | (simp only [eqP];exact SeqAt.RcAt.none_int i2 t2)
    | str z2 =>
      obtain ⟨t2,rfl⟩:=rv
      first | exact SeqAt.RcAt.none_str z2 t2 | (simp only [eqP];exact SeqAt.RcAt.none_str z2 t2)
    | @tup a2 xs2 rF h2 r2 =>
      cases rv;obtain ⟨its2,vv2,p2,_⟩:=I.tuple h2
      first | exact SeqAt.RcAt.none_tuple (show s.heap.IsTuple a2 its2.toArray from p2) hu0 | (simp only [eqP];exact SeqAt.RcAt.none_tuple (show s.heap.IsTuple a2 its2.toArray from p2) hu0)
    | ref _=>simp [aO] at hy
    | ty _=>simp [aO] at hy
  | bl b1 =>
    cases ru;cases ry with
    | non =>
      cases rv
      first | exact SeqAt.RcAt.bool_none b1 | (simp only [eqP];exact SeqAt.RcAt.bool_none b1)
    | bl b2 =>
      cases rv
      first | exact SeqAt.RcAt.bool_bool b1 b2 | (simp only [eqP];exact SeqAt.RcAt.bool_bool b1 b2)
    | int i2 =>
      obtain ⟨t2,rfl⟩:=rv
      first | exact SeqAt.RcAt.bool_int b1 i2 t2 | (simp only [eqP];exact SeqAt.RcAt.bool_int b1 i2 t2)
    | str z2 =>
      obtain ⟨t2,rfl⟩:=rv
      first | exact SeqAt.RcAt.bool_str b1 z2 t2 | (simp only [eqP];exact SeqAt.RcAt.bool_str b1 z2 t2)
    | @tup a2 xs2 rF h2 r2 =>
      cases rv;obtain ⟨its2,vv2,p2,_⟩:=I.tuple h2
      first | exact SeqAt.RcAt.bool_tuple b1 (show s.heap.IsTuple a2 its2.toArray from p2) hu0 | (simp only [eqP];exact SeqAt.RcAt.bool_tuple b1 (show s.heap.IsTuple a2 its2.toArray from p2) hu0)
    | ref _=>simp [aO] at hy
    | ty _=>simp [aO] at hy
  | int i1 =>
    obtain ⟨t1,rfl⟩:=ru;cases ry with
    | non =>
      cases rv
      first | exact SeqAt.RcAt.int_none i1 t1 | (simp only [eqP];exact SeqAt.RcAt.int_none i1 t1)
    | bl b2 =>
      cases rv
      first | exact SeqAt.RcAt.int_bool i1 t1 b2 | (simp only [eqP];exact SeqAt.RcAt.int_bool i1 t1 b2)
    | int i2 =>
      obtain ⟨t2,rfl⟩:=rv
      first | exact SeqAt.RcAt.int_int i1 t1 i2 t2 | (simp only [eqP];exact SeqAt.RcAt.int_int i1 t1 i2 t2)
    | str z2 =>
      obtain ⟨t2,rfl⟩:=rv
      first | exact SeqAt.RcAt.int_str i1 t1 z2 t2 | (simp only [eqP];exact SeqAt.RcAt.int_str i1 t1 z2 t2)
    | @tup a2 xs2 rF h2 r2 =>
      cases rv;obtain ⟨its2,vv2,p2,_⟩:=I.tuple h2
      first | exact SeqAt.RcAt.int_tuple i1 t1 (show s.heap.IsTuple a2 its2.toArray from p2) hu0 | (simp only [eqP];exact SeqAt.RcAt.int_tuple i1 t1 (show s.heap.IsTuple a2 its2.toArray from p2) hu0)
    | ref _=>simp [aO] at hy
    | ty _=>simp [aO] at hy
  | str z1 =>
    obtain ⟨t1,rfl⟩:=ru;cases ry with
    | non =>
      cases rv
      first | exact SeqAt.RcAt.str_none z1 t1 | (simp only [eqP];exact SeqAt.RcAt.str_none z1 t1)
    | bl b2 =>
      cases rv
      first | exact SeqAt.RcAt.str_bool z1 t1 b2 | (simp only [eqP];exact SeqAt.RcAt.str_bool z1 t1 b2)
    | int i2 =>
      obtain ⟨t2,rfl⟩:=rv
      first | exact SeqAt.RcAt.str_int z1 t1 i2 t2 | (simp only [eqP];exact SeqAt.RcAt.str_int z1 t1 i2 t2)
    | str z2 =>
      obtain ⟨t2,rfl⟩:=rv
      first | exact SeqAt.RcAt.str_str z1 t1 z2 t2 | (simp only [eqP];exact SeqAt.RcAt.str_str z1 t1 z2 t2)
    | @tup a2 xs2 rF h2 r2 =>
      cases rv;obtain ⟨its2,vv2,p2,_⟩:=I.tuple h2
      first | exact SeqAt.RcAt.str_tuple z1 t1 (show s.heap.IsTuple a2 its2.toArray from p2) hu0 | (simp only [eqP];exact SeqAt.RcAt.str_tuple z1 t1 (show s.heap.IsTuple a2 its2.toArray from p2) hu0)
    | ref _=>simp [aO] at hy
    | ty _=>simp [aO] at hy
  | @tup a1 xs1 ds1 h1 r1 =>
    cases ru;obtain ⟨eE,vv1,p1,_⟩:=I.tuple h1;cases ry with
    | non =>
      cases rv
      first | exact SeqAt.RcAt.tuple_none (show s.heap.IsTuple a1 eE.toArray from p1) hu0 | (simp only [eqP];exact SeqAt.RcAt.tuple_none (show s.heap.IsTuple a1 eE.toArray from p1) hu0)
    | bl b2 =>
      cases rv
      first | exact SeqAt.RcAt.tuple_bool b2 (show s.heap.IsTuple a1 eE.toArray from p1) hu0 | (simp only [eqP];exact SeqAt.RcAt.tuple_bool b2 (show s.heap.IsTuple a1 eE.toArray from p1) hu0)
    | int i2 =>
      obtain ⟨t2,rfl⟩:=rv
      first | exact SeqAt.RcAt.tuple_int i2 t2 (show s.heap.IsTuple a1 eE.toArray from p1) hu0 | (simp only [eqP];exact SeqAt.RcAt.tuple_int i2 t2 (show s.heap.IsTuple a1 eE.toArray from p1) hu0)
    | str z2 =>
      obtain ⟨t2,rfl⟩:=rv
      first | exact SeqAt.RcAt.tuple_str z2 t2 (show s.heap.IsTuple a1 eE.toArray from p1) hu0 | (simp only [eqP];exact SeqAt.RcAt.tuple_str z2 t2 (show s.heap.IsTuple a1 eE.toArray from p1) hu0)
    | @tup a2 xs2 rF h2 r2 =>
      cases rv;obtain ⟨its2,vv2,p2,_⟩:=I.tuple h2
      have z:=SeqAt.RcAt.tuples (e:=sJ ds1 rF) (show s.heap.IsTuple a1 eE.toArray from p1) (show s.heap.IsTuple a2 its2.toArray from p2) hu0 (vR (n:=n) r1 r2 vv1 vv2 fun x mx y my v w u t q1 q2 q3 q4 =>
            a1U I n A.in1 x y v w u t (vU hu) (fj.mp (by simpa [aO] using hx) x mx) (fj.mp (by simpa [aO] using hy) y my) q1 q2 q3 q4)
      have e:((gk (min eE.toArray.size its2.toArray.size)).all (sJ ds1 rF)&&eE.toArray.size == its2.toArray.size)=eqP (.tup ds1) (.tup rF):=by
        rw [eqP,jK,bh,bh,← vv1.length,← vv2.length,← r1.length,← r2.length]
      rw [e] at z;exact z
    | ref _=>simp [aO] at hy
    | ty _=>simp [aO] at hy
  | ref _=>simp [aO] at hx
  | ty _=>simp [aO] at hx
theorem aHD {σ:St} (I:Inv X pins σ H s) (n:Nat) (A:Around) (hl:yG X.K H a1 xs) (y:D) (vy:V) (v:Value) (hu0:A.units < cLine) (hy:aO n y=true) (ry:RD X.K H y vy) (rv:RelV vy v):SeqAt.RcAt A s (.ref a1) v false:=by
  obtain ⟨eE,vv1,pl,_⟩:=I.list hl;have p1:=pl.isList;cases ry with
  | non =>
    cases rv;exact SeqAt.RcAt.list_none p1 hu0
  | bl b2 =>
    cases rv;exact SeqAt.RcAt.list_bool b2 p1 hu0
  | int i2 =>
    obtain ⟨t2,rfl⟩:=rv;exact SeqAt.RcAt.list_int i2 t2 p1 hu0
  | str z2 =>
    obtain ⟨t2,rfl⟩:=rv;exact SeqAt.RcAt.list_str z2 t2 p1 hu0
  | @tup a2 xs2 rF h2 r2 =>
    cases rv;obtain ⟨its2,vv2,p2,_⟩:=I.tuple h2;exact SeqAt.RcAt.list_tuple (show s.heap.IsList a1 eE.toArray from p1) (show s.heap.IsTuple a2 its2.toArray from p2) hu0
  | ref _=>cases n <;> simp [aO] at hy
  | ty _=>cases n <;> simp [aO] at hy
theorem aHE {σ:St} (I:Inv X pins σ H s) (n:Nat) (A:Around) (hl:yG X.K H a2 xs) (y:D) (vy:V) (v:Value) (hu0:A.units < cLine) (hy:aO n y=true) (ry:RD X.K H y vy) (rv:RelV vy v):SeqAt.RcAt A s v (.ref a2) false:=by
  obtain ⟨its2,vv2,pl,_⟩:=I.list hl;have p2:=pl.isList;cases ry with
  | non =>
    cases rv;exact SeqAt.RcAt.none_list p2 hu0
  | bl b1 =>
    cases rv;exact SeqAt.RcAt.bool_list b1 p2 hu0
  | int i1 =>
    obtain ⟨t1,rfl⟩:=rv;exact SeqAt.RcAt.int_list i1 t1 p2 hu0
  | str z1 =>
    obtain ⟨t1,rfl⟩:=rv;exact SeqAt.RcAt.str_list z1 t1 p2 hu0
  | @tup a1 xs1 ds1 h1 r1 =>
    cases rv;obtain ⟨eE,vv1,p1,_⟩:=I.tuple h1;exact SeqAt.RcAt.tuple_list (show s.heap.IsTuple a1 eE.toArray from p1) (show s.heap.IsList a2 its2.toArray from p2) hu0
  | ref _=>cases n <;> simp [aO] at hy
  | ty _=>cases n <;> simp [aO] at hy
theorem aHF {σ:St} (I:Inv X pins σ H s) (n:Nat) (A:Around) {xs1 xs2:List V} {ds1 rF:List D} (h1:yG X.K H a1 xs1) (h2:yG X.K H a2 xs2) (r1:bR X.K H ds1 xs1) (r2:bR X.K H rF xs2)
    (hu:A.units+(n+1) < cLine) (hx:ds1.all (aO n)=true) (hy:rF.all (aO n)=true):SeqAt.RcAt A s (.ref a1) (.ref a2) (jJ ds1 rF):=by
  have hu0:A.units < cLine:=by omega
  obtain ⟨eE,vv1,q1,_⟩:=I.list h1;obtain ⟨its2,vv2,q2,_⟩:=I.list h2;have p1:=q1.isList;have p2:=q2.isList;by_cases hl:ds1.length=rF.length
  . have hsz:eE.toArray.size=its2.toArray.size:=by rw [bh,bh,← vv1.length,← vv2.length,← r1.length,← r2.length];exact hl
    have z:=SeqAt.RcAt.lists (e:=sJ ds1 rF) p1 p2 hsz hu0 (vR (n:=n) r1 r2 vv1 vv2 fun x mx y my v w u t q1 q2 q3 q4 =>
            a1U I n A.in1 x y v w u t (vU hu) (fj.mp hx x mx) (fj.mp hy y my) q1 q2 q3 q4)
    have e:(gk eE.toArray.size).all (sJ ds1 rF)=jJ ds1 rF:=by rw [a82 hl,bh,← vv1.length,← r1.length]
    rw [e] at z;exact z
  . have hne:(eE.toArray.size != its2.toArray.size)=true:=by rw [bh,bh,← vv1.length,← vv2.length,← r1.length,← r2.length];simpa using hl
    have e:jJ ds1 rF=false:=abE (by simpa using hl);rw [e];exact SeqAt.RcAt.lists_lengths p1 p2 hne hu0
theorem awL {σ:St} (I:Inv X pins σ H s) (n:Nat) (A:Around) (x y:D) (vx vy:V) (u v:Value) (hu:A.units+(n+1) < cLine) (hx:aO (n+1) x=true) (hy:aO (n+1) y=true) (rx:RD X.K H x vx) (ry:RD X.K H y vy) (ru:RelV vx u) (rv:RelV vy v):SeqAt.RcNeAt A s u v (!eqP x y):=by
  have hu0:A.units < cLine:=by omega
  cases rx with
  | non =>
    cases ru;cases ry with
    | non =>
      cases rv
      first | exact SeqAt.RcNeAt.none_none | (simp only [eqP];exact SeqAt.RcNeAt.none_none)
    | bl b2 =>
      cases rv
      first | exact SeqAt.RcNeAt.none_bool b2 | (simp only [eqP];exact SeqAt.RcNeAt.none_bool b2)
    | int i2 =>
      obtain ⟨t2,rfl⟩:=rv
      first | exact SeqAt.RcNeAt.none_int i2 t2 | (simp only [eqP];exact SeqAt.RcNeAt.none_int i2 t2)
    | str z2 =>
      obtain ⟨t2,rfl⟩:=rv
      first | exact SeqAt.RcNeAt.none_str z2 t2 | (simp only [eqP];exact SeqAt.RcNeAt.none_str z2 t2)
    | @tup a2 xs2 rF h2 r2 =>
      cases rv;obtain ⟨its2,vv2,p2,_⟩:=I.tuple h2
      first | exact SeqAt.RcNeAt.none_tuple (show s.heap.IsTuple a2 its2.toArray from p2) hu0 | (simp only [eqP];exact SeqAt.RcNeAt.none_tuple (show s.heap.IsTuple a2 its2.toArray from p2) hu0)
    | ref _=>simp [aO] at hy
    | ty _=>simp [aO] at hy
  | bl b1 =>
    cases ru;cases ry with
    | non =>
      cases rv
      first | exact SeqAt.RcNeAt.bool_none b1 | (simp only [eqP];exact SeqAt.RcNeAt.bool_none b1)
    | bl b2 =>
      cases rv
      first | exact SeqAt.RcNeAt.bool_bool b1 b2 | (simp only [eqP];exact SeqAt.RcNeAt.bool_bool b1 b2)
    | int i2 =>
      obtain ⟨t2,rfl⟩:=rv
      first | exact SeqAt.RcNeAt.bool_int b1 i2 t2 | (simp only [eqP];exact SeqAt.RcNeAt.bool_int b1 i2 t2)
    | str z2 =>
      obtain ⟨t2,rfl⟩:=rv
      first | exact SeqAt.RcNeAt.bool_str b1 z2 t2 | (simp only [eqP];exact SeqAt.RcNeAt.bool_str b1 z2 t2)
    | @tup a2 xs2 rF h2 r2 =>
      cases rv;obtain ⟨its2,vv2,p2,_⟩:=I.tuple h2
      first | exact SeqAt.RcNeAt.bool_tuple b1 (show s.heap.IsTuple a2 its2.toArray from p2) hu0 | (simp only [eqP];exact SeqAt.RcNeAt.bool_tuple b1 (show s.heap.IsTuple a2 its2.toArray from p2) hu0)
    | ref _=>simp [aO] at hy
    | ty _=>simp [aO] at hy
  | int i1 =>
    obtain ⟨t1,rfl⟩:=ru;cases ry with
    | non =>
      cases rv
      first | exact SeqAt.RcNeAt.int_none i1 t1 | (simp only [eqP];exact SeqAt.RcNeAt.int_none i1 t1)
    | bl b2 =>
      cases rv
      first | exact SeqAt.RcNeAt.int_bool i1 t1 b2 | (simp only [eqP];exact SeqAt.RcNeAt.int_bool i1 t1 b2)
    | int i2 =>
      obtain ⟨t2,rfl⟩:=rv
      first | exact SeqAt.RcNeAt.int_int i1 t1 i2 t2 | (simp only [eqP];exact SeqAt.RcNeAt.int_int i1 t1 i2 t2)
    | str z2 =>
      obtain ⟨t2,rfl⟩:=rv
      first | exact SeqAt.RcNeAt.int_str i1 t1 z2 t2 | (simp only [eqP];exact SeqAt.RcNeAt.int_str i1 t1 z2 t2)
    | @tup a2 xs2 rF h2 r2 =>
      cases rv;obtain ⟨its2,vv2,p2,_⟩:=I.tuple h2
      first | exact SeqAt.RcNeAt.int_tuple i1 t1 (show s.heap.IsTuple a2 its2.toArray from p2) hu0 | (simp only [eqP];exact SeqAt.RcNeAt.int_tuple i1 t1 (show s.heap.IsTuple a2 its2.toArray from p2) hu0)
    | ref _=>simp [aO] at hy
    | ty _=>simp [aO] at hy
  | str z1 =>
    obtain ⟨t1,rfl⟩:=ru;cases ry with
    | non =>
      cases rv
      first | exact SeqAt.RcNeAt.str_none z1 t1 | (simp only [eqP];exact SeqAt.RcNeAt.str_none z1 t1)
    | bl b2 =>
      cases rv
      first | exact SeqAt.RcNeAt.str_bool z1 t1 b2 | (simp only [eqP];exact SeqAt.RcNeAt.str_bool z1 t1 b2)
    | int i2 =>
      obtain ⟨t2,rfl⟩:=rv
      first | exact SeqAt.RcNeAt.str_int z1 t1 i2 t2 | (simp only [eqP];exact SeqAt.RcNeAt.str_int z1 t1 i2 t2)
    | str z2 =>
      obtain ⟨t2,rfl⟩:=rv
      first | exact SeqAt.RcNeAt.str_str z1 t1 z2 t2 | (simp only [eqP];exact SeqAt.RcNeAt.str_str z1 t1 z2 t2)
    | @tup a2 xs2 rF h2 r2 =>
      cases rv;obtain ⟨its2,vv2,p2,_⟩:=I.tuple h2
      first | exact SeqAt.RcNeAt.str_tuple z1 t1 (show s.heap.IsTuple a2 its2.toArray from p2) hu0 | (simp only [eqP];exact SeqAt.RcNeAt.str_tuple z1 t1 (show s.heap.IsTuple a2 its2.toArray from p2) hu0)
    | ref _=>simp [aO] at hy
    | ty _=>simp [aO] at hy
  | @tup a1 xs1 ds1 h1 r1 =>
    cases ru;obtain ⟨eE,vv1,p1,_⟩:=I.tuple h1;cases ry with
    | non =>
      cases rv
      first | exact SeqAt.RcNeAt.tuple_none (show s.heap.IsTuple a1 eE.toArray from p1) hu0 | (simp only [eqP];exact SeqAt.RcNeAt.tuple_none (show s.heap.IsTuple a1 eE.toArray from p1) hu0)
    | bl b2 =>
      cases rv
      first | exact SeqAt.RcNeAt.tuple_bool b2 (show s.heap.IsTuple a1 eE.toArray from p1) hu0 | (simp only [eqP];exact SeqAt.RcNeAt.tuple_bool b2 (show s.heap.IsTuple a1 eE.toArray from p1) hu0)
    | int i2 =>
      obtain ⟨t2,rfl⟩:=rv
      first | exact SeqAt.RcNeAt.tuple_int i2 t2 (show s.heap.IsTuple a1 eE.toArray from p1) hu0 | (simp only [eqP];exact SeqAt.RcNeAt.tuple_int i2 t2 (show s.heap.IsTuple a1 eE.toArray from p1) hu0)
    | str z2 =>
      obtain ⟨t2,rfl⟩:=rv
      first | exact SeqAt.RcNeAt.tuple_str z2 t2 (show s.heap.IsTuple a1 eE.toArray from p1) hu0 | (simp only [eqP];exact SeqAt.RcNeAt.tuple_str z2 t2 (show s.heap.IsTuple a1 eE.toArray from p1) hu0)
    | @tup a2 xs2 rF h2 r2 =>
      cases rv;obtain ⟨its2,vv2,p2,_⟩:=I.tuple h2
      have z:=SeqAt.RcNeAt.tuples (e:=sJ ds1 rF) (show s.heap.IsTuple a1 eE.toArray from p1) (show s.heap.IsTuple a2 its2.toArray from p2) hu0 (vR (n:=n) r1 r2 vv1 vv2 fun x mx y my v w u t q1 q2 q3 q4 =>
            a1U I n A.in1 x y v w u t (vU hu) (fj.mp (by simpa [aO] using hx) x mx) (fj.mp (by simpa [aO] using hy) y my) q1 q2 q3 q4)
      have e:((gk (min eE.toArray.size its2.toArray.size)).all (sJ ds1 rF)&&eE.toArray.size == its2.toArray.size)=eqP (.tup ds1) (.tup rF):=by
        rw [eqP,jK,bh,bh,← vv1.length,← vv2.length,← r1.length,← r2.length]
      rw [e] at z;exact z
    | ref _=>simp [aO] at hy
    | ty _=>simp [aO] at hy
  | ref _=>simp [aO] at hx
  | ty _=>simp [aO] at hx
theorem awM {σ:St} (I:Inv X pins σ H s) (n:Nat) (A:Around) (hl:yG X.K H a1 xs) (y:D) (vy:V) (v:Value) (hu0:A.units < cLine) (hy:aO n y=true) (ry:RD X.K H y vy) (rv:RelV vy v):SeqAt.RcNeAt A s (.ref a1) v true:=by
  obtain ⟨eE,vv1,pl,_⟩:=I.list hl;have p1:=pl.isList;cases ry with
  | non =>
    cases rv;exact SeqAt.RcNeAt.list_none p1 hu0
  | bl b2 =>
    cases rv;exact SeqAt.RcNeAt.list_bool b2 p1 hu0
  | int i2 =>
    obtain ⟨t2,rfl⟩:=rv;exact SeqAt.RcNeAt.list_int i2 t2 p1 hu0
  | str z2 =>
    obtain ⟨t2,rfl⟩:=rv;exact SeqAt.RcNeAt.list_str z2 t2 p1 hu0
  | @tup a2 xs2 rF h2 r2 =>
    cases rv;obtain ⟨its2,vv2,p2,_⟩:=I.tuple h2;exact SeqAt.RcNeAt.list_tuple (show s.heap.IsList a1 eE.toArray from p1) (show s.heap.IsTuple a2 its2.toArray from p2) hu0
  | ref _=>cases n <;> simp [aO] at hy
  | ty _=>cases n <;> simp [aO] at hy
theorem awN {σ:St} (I:Inv X pins σ H s) (n:Nat) (A:Around) (hl:yG X.K H a2 xs) (y:D) (vy:V) (v:Value) (hu0:A.units < cLine) (hy:aO n y=true) (ry:RD X.K H y vy) (rv:RelV vy v):SeqAt.RcNeAt A s v (.ref a2) true:=by
  obtain ⟨its2,vv2,pl,_⟩:=I.list hl;have p2:=pl.isList;cases ry with
  | non =>
    cases rv;exact SeqAt.RcNeAt.none_list p2 hu0
  | bl b1 =>
    cases rv;exact SeqAt.RcNeAt.bool_list b1 p2 hu0
  | int i1 =>
    obtain ⟨t1,rfl⟩:=rv;exact SeqAt.RcNeAt.int_list i1 t1 p2 hu0
  | str z1 =>
    obtain ⟨t1,rfl⟩:=rv;exact SeqAt.RcNeAt.str_list z1 t1 p2 hu0
  | @tup a1 xs1 ds1 h1 r1 =>
    cases rv;obtain ⟨eE,vv1,p1,_⟩:=I.tuple h1;exact SeqAt.RcNeAt.tuple_list (show s.heap.IsTuple a1 eE.toArray from p1) (show s.heap.IsList a2 its2.toArray from p2) hu0
  | ref _=>cases n <;> simp [aO] at hy
  | ty _=>cases n <;> simp [aO] at hy
theorem awO {σ:St} (I:Inv X pins σ H s) (n:Nat) (A:Around) {xs1 xs2:List V} {ds1 rF:List D} (h1:yG X.K H a1 xs1) (h2:yG X.K H a2 xs2) (r1:bR X.K H ds1 xs1) (r2:bR X.K H rF xs2)
    (hu:A.units+(n+1) < cLine) (hx:ds1.all (aO n)=true) (hy:rF.all (aO n)=true):SeqAt.RcNeAt A s (.ref a1) (.ref a2) (!jJ ds1 rF):=by
  have hu0:A.units < cLine:=by omega
  obtain ⟨eE,vv1,q1,_⟩:=I.list h1;obtain ⟨its2,vv2,q2,_⟩:=I.list h2;have p1:=q1.isList;have p2:=q2.isList;by_cases hl:ds1.length=rF.length
  . have hsz:eE.toArray.size=its2.toArray.size:=by rw [bh,bh,← vv1.length,← vv2.length,← r1.length,← r2.length];exact hl
    have z:=SeqAt.RcNeAt.lists (e:=sJ ds1 rF) p1 p2 hsz hu0 (vR (n:=n) r1 r2 vv1 vv2 fun x mx y my v w u t q1 q2 q3 q4 =>
            a1U I n A.in1 x y v w u t (vU hu) (fj.mp hx x mx) (fj.mp hy y my) q1 q2 q3 q4)
    have e:(gk eE.toArray.size).all (sJ ds1 rF)=jJ ds1 rF:=by rw [a82 hl,bh,← vv1.length,← r1.length]
    rw [e] at z;exact z
  . have hne:(eE.toArray.size != its2.toArray.size)=true:=by rw [bh,bh,← vv1.length,← vv2.length,← r1.length,← r2.length];simpa using hl
    have e:jJ ds1 rF=false:=abE (by simpa using hl);rw [e];exact SeqAt.RcNeAt.lists_lengths p1 p2 hne hu0
noncomputable def eqG (G:Gp) (x y:D) (k:Bool->Prop):Prop:=match x,y with
  | .ref a,.ref b=>(match bI G a,bI G b with
    | some xs,some ys=>xs.all (aO 20)=true/\ys.all (aO 20)=true/\k (jJ xs ys)
    | _,_=>False)
  | .ref a,y=>(match bI G a with
    | some _=>aO 20 y=true/\k false
    | none=>False)
  | x,.ref b=>(match bI G b with
    | some _=>aO 20 x=true/\k false
    | none=>False)
  | x,y=>aO 20 x=true/\aO 20 y=true/\k (eqP x y)
noncomputable def v8:R3:=fun x y G R=>eqG G x y fun b=>R (.bl b) G
noncomputable def a9I:R3:=fun x y G R=>eqG G x y fun b=>R (.bl (!b)) G
theorem a9J {r3:R3} (h:∀ (pins:List (Addr×Obj)) (s:Shared) (σ:St) (H:Hp) (x y:D) (vx vy:V) (u v:Value) (G:Gp) (R:fM) (Q:VK),Inv X pins σ H s->RD X.K H x vx->RD X.K H y vy->RelV vx u->RelV vy v->HR X.K H G->r3 x y G R ->
      (∀ w H' d G',Ts H H'->RD X.K H' d w->HR X.K H' G'->R d G'->Q w H')->wpAny (model X.prog X.w) X.A (f u v) (EP X pins σ Q) X.xe s):pO X f r3 :=
  ⟨fun vx vy H Q=>∃ x y G R,RD X.K H x vx/\RD X.K H y vy/\HR X.K H G/\r3 x y G R/\∀ w H' d G',Ts H H'->RD X.K H' d w->HR X.K H' G'->R d G'->Q w H',
    fun pins s σ H vx vy u v Q I ru rv ⟨x,y,G,R,rx,ry,g,q,k⟩=>h pins s σ H x y vx vy u v G R Q I rx ry ru rv g q k,fun H x y vx vy G R Q rx ry g q k=>⟨x,y,G,R,rx,ry,g,q,k⟩⟩
theorem afV (hu:X.A.units+64 < cLine) {neg:Bool} (hop:op=if neg then .NotEq else .Eq) {σ:St} {x y:D} {v:Value} {k:Bool->Prop} (I:Inv X pins σ H s) (rx:RD X.K H x vx) (ry:RD X.K H y vy) (ru:RelV vx u) (rv:RelV vy v) (g:HR X.K H G)
    (h:eqG G x y k) (hk:∀ b,k b->EP X pins σ Q (.bool (neg ^^ b)) s):wpAny (model X.prog X.w) X.A (compareOp op u v) (EP X pins σ Q) X.xe s:=by
  have fin:∀ {b:Bool},(if neg then SeqAt.RcNeAt X.A s u v (!b) else SeqAt.RcAt X.A s u v b)->k b->wpAny (model X.prog X.w) X.A (compareOp op u v) (EP X pins σ Q) X.xe s:=fun {b} z kb=>by
    have e:=hk b kb;cases neg with
    | true =>
      subst hop;rw [Bool.true_xor] at e;exact z X.prog X.w X.xe _ e
    | false =>
      subst hop;rw [Bool.false_xor] at e;exact z X.prog X.w X.xe _ e
  have hu1:X.A.units+(20+1) < cLine:=by omega
  have hu2:X.A.units+(19+1) < cLine:=by omega
  have hu0:X.A.units < cLine:=by omega
  have plain:aO 20 x=true->aO 20 y=true->k (eqP x y)->wpAny (model X.prog X.w) X.A (compareOp op u v) (EP X pins σ Q) X.xe s:=fun hx hy kk=>fin (b:=eqP x y) (by
    cases neg with
    | true=>exact awL I 19 X.A x y vx vy u v hu2 hx hy rx ry ru rv
    | false=>exact aHC I 19 X.A x y vx vy u v hu2 hx hy rx ry ru rv) kk
  have left:∀ a xs,x = .ref a->bI G a=some xs->aO 20 y=true->k false->wpAny (model X.prog X.w) X.A (compareOp op u v) (EP X pins σ Q) X.xe s:=fun a xs e1 e2 hy kk=>by
    subst e1;cases rx;cases ru;obtain ⟨zs,hz,_⟩:=cJ g e2;refine fin (b:=false) ?_ kk;cases neg with
    | true=>exact awM I 20 X.A hz y vy v hu0 hy ry rv
    | false=>exact aHD I 20 X.A hz y vy v hu0 hy ry rv
  have right:∀ a xs,y = .ref a->bI G a=some xs->aO 20 x=true->k false->wpAny (model X.prog X.w) X.A (compareOp op u v) (EP X pins σ Q) X.xe s:=fun a xs e1 e2 hy kk=>by
    subst e1;cases ry;cases rv;obtain ⟨zs,hz,_⟩:=cJ g e2;refine fin (b:=false) ?_ kk;cases neg with
    | true=>exact awN I 20 X.A hz x vx u hu0 hy rx ru
    | false=>exact aHE I 20 X.A hz x vx u hu0 hy rx ru
  unfold eqG at h;split at h
  . rename_i a b;split at h
    . rename_i xs ys e1 e2;cases rx;cases ry;cases ru;cases rv;obtain ⟨zs1,hz1,q1⟩:=cJ g e1;obtain ⟨zs2,hz2,q2⟩:=cJ g e2;refine fin (b:=jJ xs ys) ?_ h.2.2;cases neg with
      | true=>exact awO I 20 X.A hz1 hz2 q1 q2 hu1 h.1 h.2.1
      | false=>exact aHF I 20 X.A hz1 hz2 q1 q2 hu1 h.1 h.2.1
    . exact h.elim
  . rename_i a _;split at h
    . rename_i xs e1;exact left a xs rfl e1 h.1 h.2
    . exact h.elim
  . rename_i b _;split at h
    . rename_i xs e1;exact right b xs rfl e1 h.1 h.2
    . exact h.elim
  . exact plain h.1 h.2.1 h.2.2
theorem aHG (hu:X.A.units+64 < cLine):pO X (compareOp .Eq) v8:=a9J fun pins s σ H x y vx vy u v G R Q I rx ry ru rv g q k =>
  afV (neg:=false) hu rfl I rx ry ru rv g q fun b kb=>⟨.bl b,H,I,by rw [Bool.false_xor];rfl,k _ H (.bl b) G (.refl H) (.bl b) g kb⟩
theorem aHH (hu:X.A.units+64 < cLine):pO X (compareOp .NotEq) a9I:=a9J fun pins s σ H x y vx vy u v G R Q I rx ry ru rv g q k =>
  afV (neg:=true) hu rfl I rx ry ru rv g q fun b kb=>⟨.bl (!b),H,I,by rw [Bool.true_xor];rfl,k _ H (.bl (!b)) G (.refl H) (.bl (!b)) g kb⟩
end
end
section
open PySem.W PySem.Calls
open PySem.Builtin PySem.Builtin.ObjectAttr PySem.Builtin.Getset_descriptor
section
variable {prog:Program} {w:World} {A:Around} {E:Value->Shared->Prop} {s:Shared} {K:Fg} {x C:Addr} {o:Obj}
theorem a75 {tp:Value} {R:Result->Shared->Prop} (X:K.In s.heap) (hx:s.heap.get? x=some o) (hc:o.cls = .ref C) (hm:mroIn K C (.type "object")=some true)
    (h:R (.ok (.ret (.ref C))) s):codeAny (model prog w) A (.call (.builtin "getset_descriptor.__get__") ⟨[.builtin "object.__class__",.ref x,tp],[]⟩) R s:=by
  obtain ⟨hh,g,dr,t,os⟩:=s;have L0:Looks (model prog w) hh (typeOf (.ref x)) (.ref C):=hc ▸ (Looks.ld hx).andThen .now;have L1:=looks_mroIn (M:=model prog w) X hm;refine codeAny_call_builtin KF.slot_gs.plain KF.entry_gs (KF.slot_gs.check _ _ _ _ _ _ _ _ KF.type_class (KF.args_gs _ _ _) ?_);unfold Builtin.«getset_descriptor.__get__» descrGet;rw [dga_obj];refine aj (aq ?_);unfold descrGetter descrCheckInstance descrNameAndClass isInstance;simp only [KF.owner_class]
  repeat lk
  refine ⟨Code.quiet_builtin _ (by decide +kernel),codeAny_builtin KF.entry_class ?_⟩;unfold Builtin.«object.__class__» shownTypeOf
  repeat lk
  exact h
theorem aiC {Q:Option Value->Shared->Prop} (X:K.In s.heap) (hx:s.heap.get? x=some o) (hc:o.cls = .ref C)
    (hga:findIn K (.ref C) "__getattribute__" = some (some (.builtin "BaseException.__getattribute__"))) (hgn:findIn K (.ref C) "__getattr__" = some none) (ha:findIn K (.ref C) "__class__" = some (some (.builtin "object.__class__")))
    (hb:subIn K (.ref C) (.type "BaseException")=some true) (hm:mroIn K C (.type "object")=some true) (h:Q (some (.ref C)) { s with toks:=s.toks+1 }):wpAny (model prog w) A (getAttr? (.ref x) "__class__") Q E s:=by
  obtain ⟨hh,g,d,t,os⟩:=s;have L0:Looks (model prog w) hh (typeOf (.ref x)) (.ref C):=hc ▸ (Looks.ld hx).andThen .now;have L1:=looks_findIn (M:=model prog w) X hga;have L2':=looks_findIn (M:=model prog w) X hgn;have L3:=looks_findIn (M:=model prog w) X ha;have L4:=looks_subIn (M:=model prog w) X hb;unfold getAttr? getAttrBy? getAttrBy;refine aj (wpAny_mkText (aj (wpAny_attempt (wpAny_holding (aj (L0.at (aj (L1.at ?_))))))));have hx2:(Value.builtin "BaseException.__getattribute__" == Value.builtin "object.__getattribute__")=false:=by decide +kernel
  have f3:=PySem.F.attr_ValueError.ga.bind (.ref x);have hk:builtinKind "BaseException.__getattribute__" = some .slot:=by decide +kernel
  have hsplit:splitId "BaseException.__getattribute__" = some ("BaseException", "__getattribute__"):=by decide +kernel
  have ha2:=PySem.F.args_bexc_ga (.ref x) (.str "__class__" t)
  repeat (first | with_reducible refine L0.at ?_ | with_reducible refine L1.at ?_ | with_reducible refine L2'.at ?_ | with_reducible refine L3.at ?_ | with_reducible refine L4.at ?_ | wp_step)
  refine codeAny_call_builtin PySem.F.attr_ValueError.ga.plain PySem.F.entry_bexc_ga ?_;simp only [checkBuiltinCall,hk,hsplit];unfold isInstance;have f5:=PySem.F.typeOf_object_class;have f6:=PySem.F.slot_gs_get.lookup;have f7:=PySem.F.slot_gs_set.lookup
  repeat (any_goals (first | assumption | with_reducible refine L0.at ?_ | with_reducible refine L1.at ?_ | with_reducible refine L2'.at ?_ | with_reducible refine L3.at ?_ | with_reducible refine L4.at ?_ | wp_step))
  refine a75 X hx hc hm ?_
  repeat (any_goals (first | assumption | wp_step))
end
end
variable {T:String}{R:fM}
section
section
variable {X:Cx} {x:Str} {p pos:Pos} {e o:Expr} {es:List Expr} {t:pL} {to:cF} {id T:String} {r3:List D->Gp->fM->Prop}
noncomputable def cV (X:Cx) (f:Value) (r3:List D->Gp->fM->Prop):Prop :=
  ∀ (pins:List (Addr×Obj)) (s:Shared) (σ:St) (H:Hp) (xs:List D) (vs:List V) (us:List Value) (G:Gp) (R:fM) (Q:VK),Inv X pins σ H s->bR X.K H xs vs->Vals vs us->HR X.K H G->r3 xs G R ->
    (∀ v H' d G',Ts H H'->RD X.K H' d v->HR X.K H' G'->R d G'->Q v H')->wpAny (model X.prog X.w) X.A (call f us) (EP X pins σ Q) X.xe s
theorem cV.of {f:Value} {r:List V->Hp->VK->Prop} (h:rA X f r) (i:∀ (H:Hp) (xs:List D) (vs:List V) (G:Gp) (R:fM) (Q:VK),bR X.K H xs vs->HR X.K H G->r3 xs G R ->
    (∀ v H' d G',Ts H H'->RD X.K H' d v->HR X.K H' G'->R d G'->Q v H')->r vs H fun v H'=>KF X.K H'->Q v H'):cV X f r3:=fun pins s σ H xs vs us G R Q I rx rv g q k =>
  cR (h pins s σ H vs us _ I rv (i H xs vs G R Q rx g q k)) fun _ _ ⟨v,H',I',r,q'⟩=>⟨v,H',I',r,q' (uP I')⟩
noncomputable def gB (r3:List D->Gp->fM->Prop) (t:pL):cF:=fun ρ G R=>t ρ G fun xs G1=>r3 xs G1 R
theorem a09 (hc:cV X (.builtin id) r3) (hg:Gl X x) (hm:X.mg x=none) (hv:bootBuiltins x=some (.builtin id)) (ha:PA3 X (e :: es) t) (hn:x ≠ "__name__" := by decide) (hdb:(x == ("__debug__" : Str))=false:=by decide)
    (he:starEach (e :: es) X.env=(false,eval e X.env) :: starEach es X.env:=by rfl) (hpl:(backTo pos (starEach es X.env)).any (·.1)=false:=by rfl):cI X (.Call (.Name x p) (e :: es) [] pos) (gB r3 t):=by
  intro pins s σ H Q I h _tk;obtain ⟨ρ,G,R,sr,g,q,kk⟩:=h;refine wpAny_Call_Name_kw (a3X I hg hm hv ?_ hn hdb)
  exact PyProof.Rows.callWith_builtin1 (cR (ha pos pins s σ H (fun vs H1=>Ts H H1/\∃ ds G1,bR X.K H1 ds vs/\HR X.K H1 G1/\r3 ds G1 R) I ⟨ρ,G,_,sr,g,q,fun vs H1 ds G1 t1 r1 g1 q1=>⟨t1,ds,G1,r1,g1,q1⟩⟩) fun us s1 ⟨vs,H1,I1,r,t1,ds,G1,r1,g1,q1⟩ =>
    hc pins s1 σ H1 ds vs us G1 R Q I1 r1 r g1 q1 fun v H' d G' t2=>kk v H' d G' (t1.trans t2)) he hpl
theorem akM (hc:cV X (.type T) r3) (hg:Gl X x) (hm:X.mg x=none) (hv:bootBuiltins x=some (.type T)) (ha:PA3 X (e :: es) t) (hn:x ≠ "__name__" := by decide) (hdb:(x == ("__debug__" : Str))=false:=by decide)
    (he:starEach (e :: es) X.env=(false,eval e X.env) :: starEach es X.env:=by rfl) (hpl:(backTo pos (starEach es X.env)).any (·.1)=false:=by rfl):cI X (.Call (.Name x p) (e :: es) [] pos) (gB r3 t):=by
  intro pins s σ H Q I h _tk;obtain ⟨ρ,G,R,sr,g,q,kk⟩:=h;refine wpAny_Call_Name_kw (a3X I hg hm hv ?_ hn hdb)
  exact PyProof.Rows.callWith_type1 (cR (ha pos pins s σ H (fun vs H1=>Ts H H1/\∃ ds G1,bR X.K H1 ds vs/\HR X.K H1 G1/\r3 ds G1 R) I ⟨ρ,G,_,sr,g,q,fun vs H1 ds G1 t1 r1 g1 q1=>⟨t1,ds,G1,r1,g1,q1⟩⟩) fun us s1 ⟨vs,H1,I1,r,t1,ds,G1,r1,g1,q1⟩ =>
    hc pins s1 σ H1 ds vs us G1 R Q I1 r1 r g1 q1 fun v H' d G' t2=>kk v H' d G' (t1.trans t2)) he hpl
noncomputable def yO:List D->Gp->fM->Prop:=fun xs G R=>match xs with
  | [.str z]=>z.length<=sizeLine/\R (.int z.length) G
  | [.tup ds]=>R (.int ds.length) G
  | [.ref q]=>(match bI G q with
    | some ds=>R (.int ds.length) G
    | none=>False)
  | _=>False
theorem aCG:cV X (.builtin "len") yO:=cV.of (a9A.or a9B) fun H xs vs G R Q rx g q k=>by
  cases rx with
  | nil=>exact False.elim q
  | cons r rr =>
    cases rr with
    | cons _ _=>cases r <;> exact False.elim q
    | nil =>
      cases r with
      | str z=>exact .inr ⟨z,rfl,q.1,fun _=>k _ H _ G (.refl H) (.int _) g q.2⟩
      | @tup a xs ds ha ra=>exact .inl ⟨a,xs,rfl,.inr ha,fun _=>by rw [← ra.length];exact k _ H _ G (.refl H) (.int _) g q⟩
      | ref a =>
        have q':(match bI G a with
          | some ds=>R (.int ds.length) G
          | none=>False):=q
        split at q'
        . rename_i ds e1;obtain ⟨xs,h1,r1⟩:=cJ g e1;exact .inl ⟨a,xs,rfl,.inl h1,fun _=>by rw [← r1.length];exact k _ H _ G (.refl H) (.int _) g q'⟩
        . exact q'.elim
      | _=>exact False.elim q
noncomputable def abG:List D->Gp->fM->Prop:=fun xs G R=>match xs with
  | [.int i]=>R (.int i) G
  | [.bl b]=>R (.int (if b then 1 else 0)) G
  | _=>False
theorem aCH:cV X (.type "int") abG:=cV.of ahX fun H xs vs G R Q rx g q k=>by
  cases rx with
  | nil=>exact False.elim q
  | cons r rr =>
    cases rr with
    | cons _ _=>cases r <;> exact False.elim q
    | nil =>
      cases r with
      | int i=>exact .inl ⟨i,rfl,fun _=>k _ H _ G (.refl H) (.int _) g q⟩
      | bl b=>exact .inr ⟨b,rfl,fun _=>k _ H _ G (.refl H) (.int _) g q⟩
      | _=>exact False.elim q
noncomputable def a4S:List D->Gp->fM->Prop:=fun xs G R=>match xs with
  | [.tup ds]=>∀ l,G l=none->R (.ref l) (aM G l (.lst ds))
  | [.ref q]=>(match bI G q with
    | some ds=>∀ l,G l=none->R (.ref l) (aM G l (.lst ds))
    | none=>False)
  | _=>False
theorem awP:cV X (.type "list") a4S:=cV.of a9C fun H xs vs G R Q rx g q k=>by
  cases rx with
  | nil=>exact False.elim q
  | cons r rr =>
    cases rr with
    | cons _ _=>cases r <;> exact False.elim q
    | nil =>
      cases r with
      | @tup a xs ds ha ra =>
        refine ⟨a,xs,rfl,.inr ha,fun l hl kf=>?_⟩;have sn:Same H (upd H l (.lst xs)):=bH hl;exact k _ _ _ _ (.same sn) (.ref l) (g.put (u := .lst ds) hl ⟨_,aF,ra.mono (.same sn)⟩) (q l (iJ g hl kf))
      | ref a =>
        have q':(match bI G a with
          | some ds=>∀ l,G l=none->R (.ref l) (aM G l (.lst ds))
          | none=>False):=q
        split at q'
        . rename_i ds e1;obtain ⟨xs,h1,r1⟩:=cJ g e1;refine ⟨a,xs,rfl,.inl h1,fun l hl kf=>?_⟩;have sn:Same H (upd H l (.lst xs)):=bH hl;exact k _ _ _ _ (.same sn) (.ref l) (g.put (u := .lst ds) hl ⟨_,aF,r1.mono (.same sn)⟩) (q' l (iJ g hl kf))
        . exact q'.elim
      | _=>exact False.elim q
noncomputable def tyD (G:Gp):D->Option String
  | .non=>some "NoneType"
  | .bl _=>some "bool"
  | .int _=>some "int"
  | .str _=>some "str"
  | .tup _=>some "tuple"
  | .ref q=>(match G q with
    | some (.lst _)=>some "list"
    | some (.rol _)=>some "list"
    | some (.lX _ _)=>some "dict"
    | _=>none)
  | .ty _=>none
noncomputable def exD (G:Gp):D->Option Addr
  | .ref q=>(match G q with
    | some (.exn C)=>some C
    | _=>none)
  | _=>none
noncomputable def subB (T n:String):Bool:=T == n || (T == "bool" && n == "int")
noncomputable def aCJ:List String:=["NoneType", "bool", "int", "str", "list", "tuple", "dict"]
noncomputable def nZ:List String:=["int", "bool", "str", "list", "tuple", "dict", "ValueError"]
theorem awR:∀ T∈aCJ,∀ n∈nZ,gq [] (.type T) (.type n)=some (subB T n):=by decide +kernel
theorem mR (K:Fg) (h1:T∈aCJ) (h2:n∈nZ):gq K (.type T) (.type n)=some (subB T n):=awR T h1 n h2
structure ExC (K:Fg) (C:Addr):Prop where
  ga:jt K (.ref C) "__getattribute__" = some (some (.builtin "BaseException.__getattribute__"))
  gn:jt K (.ref C) "__getattr__" = some none
  cl:jt K (.ref C) "__class__" = some (some (.builtin "object.__class__"))
  be:je K (.ref C) (.type "BaseException")=some true
  ob:PySem.W.mroIn K C (.type "object")=some true
  cs:(jj K C).isSome=true
theorem akN {K:Fg} (c:ExC K C):PySem.W.KitX K (.ref a) (.ref C) (yM C a) where
  ty:=fun M h X ⟨o,vs,h1,h2,_⟩=>h2 ▸ (kh.ld h1).andThen .now
  it:=fun M h X _=>by
    intro A' Q' E' s' k q;cases eK:jj K C with
    | none=>have:=c.cs;rw [eK] at this;cases this
    | some cd =>
      unfold jj at eK;split at eK
      . rename_i ho;unfold isType loadHead;exact aj (wpAny_loadPart (k _ _ (X _ _ ho)) (aq q))
      . cases eK
  ne:=fun h tp dd its n sl X htp=>by
    refine Bool.eq_false_iff.mpr fun q=>?_;have e:C=tp:=Value.ref.inj (beq_iff_eq.mp q);subst e;cases eK:jj K C with
    | none=>have:=c.cs;rw [eK] at this;cases this
    | some cd =>
      unfold jj at eK;split at eK
      . rename_i ho;have z:=(X _ _ ho).symm.trans htp;cases z
      . cases eK
  ca:=fun X ⟨o,vs,h1,h2,_⟩ k=>aiC X h1 h2 c.ga c.gn c.cl c.be c.ob k
noncomputable def aN (K:Fg):List D->Gp->fM->Prop:=fun xs G R=>match xs with
  | [x,.ty n]=>(match tyD G x with
    | some T=>n∈nZ/\R (.bl (subB T n)) G
    | none=>(match exD G x with
      | some C=>∃ b,ExC K C/\gq K (.ref C) (.type n)=some b/\R (.bl b) G
      | none=>False))
  | [x,.ref C']=>(match exD G x with
    | some C=>∃ b,ExC K C/\gq K (.ref C) (.ref C')=some b/\R (.bl b) G
    | none=>False)
  | _=>False
variable {x:D}
theorem akO (h:exD G x=some C):∃ a,x = .ref a/\G a=some (.exn C):=by
  cases x with
  | ref q =>
    refine ⟨q,rfl,?_⟩
    have h':(match G q with
      | some (.exn C)=>some C
      | _=>none)=some C:=h
    split at h'
    . rename_i e1;cases h';exact e1
    . cases h'
  | _=>cases h
theorem iM {σ:St} {c:Value} {b:Bool} (I:Inv X pins σ H s) (g:HR X.K H G) (e:G a=some (.exn C)) (hc:ExC X.K C) (hk:gq X.K (.ref C) c=some b) (q:R (.bl b) G)
    (k:∀ v H' d G',Ts H H'->RD X.K H' d v->HR X.K H' G'->R d G'->Q v H'):wpAny (model X.prog X.w) X.A (call (.builtin "isinstance") [.ref a,c]) (EP X pins σ Q) X.xe s:=by
  obtain ⟨o0,vs0,z,_⟩:=g a _ e;obtain ⟨_,z1,_,_⟩:=I.hok a _ z;exact qg (akN hc) I.kIn z1 hk (fun z=>nomatch z) fun tk=>⟨.bl b,H,I.tok tk,rfl,k _ H _ G (.refl H) (.bl b) g q⟩
theorem awS {σ:St} (I:Inv X pins σ H s) (rx:RD X.K H x vx) (ru:RelV vx u) (g:HR X.K H G) (e:tyD G x=some T) (hn:n∈nZ) (q:R (.bl (subB T n)) G)
    (k:∀ v H' d G',Ts H H'->RD X.K H' d v->HR X.K H' G'->R d G'->Q v H'):wpAny (model X.prog X.w) X.A (call (.builtin "isinstance") [u,.type n]) (EP X pins σ Q) X.xe s:=by
  have fin:∀ tk,EP X pins σ Q (.bool (subB T n)) { s with toks:=tk }:=fun tk=>⟨.bl _,H,I.tok tk,rfl,k _ H _ G (.refl H) (.bl _) g q⟩;cases rx with
  | non=>cases ru;cases e;exact qg PySem.W.kitx_none I.kIn True.intro (mR _ (by decide) hn) (fun z=>nomatch z) fin
  | bl b=>cases ru;cases e;exact qg PySem.W.kitx_bool I.kIn True.intro (mR _ (by decide) hn) (fun z=>nomatch z) fin
  | int i=>obtain ⟨t,rfl⟩:=ru;cases e;exact qg PySem.W.kitx_int I.kIn True.intro (mR _ (by decide) hn) (fun z=>nomatch z) fin
  | str i=>obtain ⟨t,rfl⟩:=ru;cases e;exact qg PySem.W.kitx_str I.kIn True.intro (mR _ (by decide) hn) (fun z=>nomatch z) fin
  | ty n=>cases e
  | @tup a xs ds ha ra =>
    cases ru;cases e;obtain ⟨its,_,p,_⟩:=I.tuple ha;obtain ⟨o,h1,h2,_⟩:=p;exact qg PySem.W.kitx_tuple I.kIn ⟨o,h1,h2⟩ (mR _ (by decide) hn) (fun z=>nomatch z) fin
  | ref a =>
    cases ru
    have e':(match G a with
      | some (.lst _)=>some "list"
      | some (.rol _)=>some "list"
      | some (.lX _ _)=>some "dict"
      | _=>none)=some T:=e
    split at e'
    . rename_i ds e1;cases e';obtain ⟨xs,h1,_⟩:=cJ g (show bI G a=some ds by unfold bI;rw [e1]);obtain ⟨its,_,p,_⟩:=I.list h1;obtain ⟨o,n',h1,h2,_⟩:=p;exact qg PySem.W.kitx_list I.kIn ⟨o,h1,h2⟩ (mR _ (by decide) hn) (fun z=>nomatch z) fin
    . rename_i ds e1;cases e';obtain ⟨xs,h1,_⟩:=cJ g (show bI G a=some ds by unfold bI;rw [e1]);obtain ⟨its,_,p,_⟩:=I.list h1;obtain ⟨o,n',h1,h2,_⟩:=p;exact qg PySem.W.kitx_list I.kIn ⟨o,h1,h2⟩ (mR _ (by decide) hn) (fun z=>nomatch z) fin
    . rename_i kvs e1;cases e';rcases g a _ e1 with ⟨_,xs,h1,_⟩ | ⟨_,xs,h1,_⟩
      . obtain ⟨_,_,vs,_,o,es,ep,h1,h2,_⟩:=I.hok a _ h1;exact qg PySem.W.kitx_dict I.kIn ⟨o,h1,h2.1⟩ (mR _ (by decide) hn) (fun z=>nomatch z) fin
      . obtain ⟨_,_,xs,_,o,es,ep,h1,h2,_⟩:=I.hok a _ h1;exact qg PySem.W.kitx_dict I.kIn ⟨o,h1,h2.1⟩ (mR _ (by decide) hn) (fun z=>nomatch z) fin
    . cases e'
theorem a9K:cV X (.builtin "isinstance") (aN X.K):=by
  intro pins s σ H xs vs us G R Q I rx rv g q k;cases rx with
  | nil=>exact False.elim q
  | @cons x v ds ws r1 rr =>
    cases rr with
    | nil=>cases r1 <;> exact False.elim q
    | @cons y v2 rF ws2 r2 rr2 =>
      cases rr2 with
      | cons _ _=>cases r2 <;> exact False.elim q
      | nil =>
        obtain ⟨u1,u2,rfl,ru1,ru2⟩:=vals2 rv;cases r2 with
        | ty n =>
          cases ru2
          have q':(match tyD G x with
            | some T=>n∈nZ/\R (.bl (subB T n)) G
            | none=>(match exD G x with
              | some C=>∃ b,ExC X.K C/\gq X.K (.ref C) (.type n)=some b/\R (.bl b) G
              | none=>False)):=q
          split at q'
          . rename_i T eT;exact awS I r1 ru1 g eT q'.1 q'.2 k
          . split at q'
            . rename_i C eC;obtain ⟨a,rfl,ea⟩:=akO eC;obtain ⟨b,hc,hk,q'⟩:=q';cases r1;cases ru1;exact iM I g ea hc hk q' k
            . exact q'.elim
        | ref C' =>
          cases ru2
          have q':(match exD G x with
            | some C=>∃ b,ExC X.K C/\gq X.K (.ref C) (.ref C')=some b/\R (.bl b) G
            | none=>False):=q
          split at q'
          . rename_i C eC;obtain ⟨a,rfl,ea⟩:=akO eC;obtain ⟨b,hc,hk,q'⟩:=q';cases r1;cases ru1;exact iM I g ea hc hk q' k
          . exact q'.elim
        | _=>exact False.elim q
end
end
variable {id:String}{to:cF}
section
theorem a4T {K:Fg} {H:Hp} {x:D} {vx:V} (hx:scD x=true) (rx:RD K H x vx):∀ {ys:List D} {vs:List V},bR K H ys vs->ys.all scD=true->vs.any (fun y=>eqV y vx)=ys.any (fun y=>eqP y x)
  | _,_,.nil,_=>rfl
  | _,_,.cons h r,hs=>by
    rw [mq,ak] at hs;rw [rm,rm,a4T hx rx r hs.2];congr 1;obtain ⟨h1,_⟩:=hs;cases rx <;> cases h <;> first | (simp [eqV,eqP];done) | cases hx | cases h1
variable {x:D}
theorem a0A {K:Fg} (hx:scD x=true) (rx:RD K H x vx):uN vx=true:=by cases rx <;> first | rfl | cases hx
theorem vV {K:Fg} {H:Hp}:∀ {ys:List D} {vs:List V},bR K H ys vs->ys.all scD=true->vs.all uN=true
  | _,_,.nil,_=>rfl
  | _,_,.cons h r,hs=>by
    rw [mq,ak] at hs;rw [mq,a0A hs.1 h,vV r hs.2];rfl
noncomputable def inG (G:Gp) (x y:D) (k:Bool->Prop):Prop:=match x,y with
  | .str i,.str j=>k (!(Builtin.Str.occurrences j i 0 j.length 1).isEmpty)
  | x,.tup ys=>scD x=true/\ys.all scD=true/\k (ys.any fun y=>eqP y x)
  | x,.ref p=>(match bI G p with
    | some ys=>scD x=true/\ys.all scD=true/\k (ys.any fun y=>eqP y x)
    | none=>False)
  | _,_=>False
noncomputable def aCK:R3:=fun x y G R=>inG G x y fun b=>R (.bl b) G
noncomputable def sO:R3:=fun x y G R=>inG G x y fun b=>R (.bl (!b)) G
variable {o:Expr}
section
variable {X:Cx}
theorem aHK (hu:X.A.units+64 < cLine):pO X (compareOp .In) aCK:=by
  refine ⟨_,ahU.or ai1,fun H x y vx vy G R Q rx ry g h k=>?_⟩;have h':inG G x y fun b=>R (.bl b) G:=h;unfold inG at h';split at h'
  . cases rx;cases ry;exact .inl ⟨_,_,rfl,rfl,k _ H _ G (.refl H) (.bl _) g h'⟩
  . cases ry with
    | @tup a xs ds ha ra =>
      refine .inr ⟨a,xs,rfl,.inr ha,a0A h'.1 rx,vV ra h'.2.1,?_⟩;have e:inV vx xs=_:=a4T h'.1 rx ra h'.2.1;simp only [jh,if_false];rw [e];exact k _ H _ G (.refl H) (.bl _) g h'.2.2
  . cases ry;split at h'
    . rename_i ys e1;obtain ⟨xs,hq,ra⟩:=cJ g e1;refine .inr ⟨_,xs,rfl,.inl hq,a0A h'.1 rx,vV ra h'.2.1,?_⟩;have e:inV vx xs=_:=a4T h'.1 rx ra h'.2.1;simp only [jh,if_false];rw [e];exact k _ H _ G (.refl H) (.bl _) g h'.2.2
    . exact h'.elim
  . exact h'.elim
theorem apT (hu:X.A.units+64 < cLine):pO X (compareOp .NotIn) sO:=by
  refine ⟨_,a93.or a99,fun H x y vx vy G R Q rx ry g h k=>?_⟩;have h':inG G x y fun b=>R (.bl (!b)) G:=h;unfold inG at h';split at h'
  . cases rx;cases ry;exact .inl ⟨_,_,rfl,rfl,k _ H _ G (.refl H) (.bl _) g h'⟩
  . cases ry with
    | @tup a xs ds ha ra =>
      refine .inr ⟨a,xs,rfl,.inr ha,a0A h'.1 rx,vV ra h'.2.1,?_⟩;have e:inV vx xs=_:=a4T h'.1 rx ra h'.2.1;simp only [if_true];rw [e];exact k _ H _ G (.refl H) (.bl _) g h'.2.2
  . cases ry;split at h'
    . rename_i ys e1;obtain ⟨xs,hq,ra⟩:=cJ g e1;refine .inr ⟨_,xs,rfl,.inl hq,a0A h'.1 rx,vV ra h'.2.1,?_⟩;have e:inV vx xs=_:=a4T h'.1 rx ra h'.2.1;simp only [if_true];rw [e];exact k _ H _ G (.refl H) (.bl _) g h'.2.2
    . exact h'.elim
  . exact h'.elim
noncomputable def awU (x:D) (lo hi:Option Int) (G:Gp) (R:fM):Prop:=match x with
  | .tup xs=>¬ (HT.jF xs.length 0 lo=0/\HT.jF xs.length xs.length hi=xs.length)/\R (.tup (cutD xs lo hi)) G
  | .str z=>z.length<=sizeLine/\R (.str (Txt.slice z lo hi)) G
  | .ref p=>(match bI G p with
    | some xs=>∀ q,G q=none->R (.ref q) (aM G q (.lst (cutD xs lo hi)))
    | none=>False)
  | _=>False
theorem awV:SlR X (fun x lo hi H Q=>∃ z,x = .str z/\z.length<=sizeLine/\Q (.str (Txt.slice z lo hi)) H):=by
  intro pins s σ H x v vl vu lo hi sl Q I rx hs pl pu h;obtain ⟨z,rfl,hz,q⟩:=h;obtain ⟨t,rfl⟩:=rx;refine ⟨"str",_,F.slot_str_getitem.lookup,typeIs_str _ _ _,?_⟩;have fin:∀ t' k,EP X pins σ Q (.str (Txt.slice z lo hi) t') { s with toks:=k }:=fun t' k=>⟨.str _,H,I.tok k,⟨t',rfl⟩,q⟩;cases pl with
  | none =>
    cases pu with
    | none=>exact wpAny_getItem_str_slice (l:=none) (u:=none) (st:=none) hs rfl (post_val_or_str ⟨jd (Txt.slice_le z _ _) hz,fin⟩)
    | int j uj=>exact wpAny_getItem_str_slice (l:=none) (u:=some (j,uj)) (st:=none) hs rfl (post_val_or_str ⟨jd (Txt.slice_le z _ _) hz,fin⟩)
  | int i ui =>
    cases pu with
    | none=>exact wpAny_getItem_str_slice (l:=some (i,ui)) (u:=none) (st:=none) hs rfl (post_val_or_str ⟨jd (Txt.slice_le z _ _) hz,fin⟩)
    | int j uj=>exact wpAny_getItem_str_slice (l:=some (i,ui)) (u:=some (j,uj)) (st:=none) hs rfl (post_val_or_str ⟨jd (Txt.slice_le z _ _) hz,fin⟩)
theorem akP {K:Fg} (r:bR K H ds xs) (lo hi:Option Int):bR K H (cutD ds lo hi) (a70 xs lo hi):=by
  unfold cutD a70;rw [r.length];exact (r.drop _).take _
noncomputable def a0B (te:cF) (tl th:TO3):cF:=fun ρ G R=>te ρ G fun x G1=>tl ρ G1 fun lo G2=>th ρ G2 fun hi G3=>awU x lo hi G3 R
theorem apU {lo hi:Option Expr} {tl th:TO3} {p2:Pos} (he:cI X e te) (hl:PO3 X lo tl) (hu:PO3 X hi th):cI X (.Subscript e (.Slice lo hi none p2) pos) (a0B te tl th):=by
  refine PE.imp (PE.kf (ak2 (aoZ.or (avN.or awV)) he hl hu)) fun σ H Q h=>?_;obtain ⟨ρ,G,R,s,g,q,k⟩:=h;refine ⟨ρ,G,_,s,g,q,fun vx H1 x G1 t1 rx g1 q1=>?_⟩;refine ⟨ρ,G1,_,s.mono t1,g1,q1,fun l H2 G2 t2 g2 q2=>?_⟩;refine ⟨ρ,G2,_,s.mono (t1.trans t2),g2,q2,fun u H3 G3 t3 g3 q3=>?_⟩;have rx3:=rx.mono (t2.trans t3);have tt:=(t1.trans t2).trans t3;cases rx3 with
  | @tup a xs ds ha ra =>
    refine .inr (.inl ⟨a,xs,rfl,ha,by rw [← ra.length];exact q3.1,fun p hp _=>?_⟩);have sn:Same H3 (upd H3 p (.tup (a70 xs l u))):=bH hp;exact k _ _ _ G3 (tt.trans (.same sn)) (.tup (uL.of aF) ((akP ra l u).mono (.same sn)) (ap9 aF)) (g3.same sn) q3.2
  | str z=>exact .inr (.inr ⟨z,rfl,q3.1,fun _=>k _ H3 _ G3 tt (.str _) g3 q3.2⟩)
  | ref p =>
    have q3':(match bI G3 p with
      | some xs=>∀ q,G3 q=none->R (.ref q) (aM G3 q (.lst (cutD xs l u)))
      | none=>False):=q3
    split at q3'
    . rename_i ds e1;obtain ⟨xs,hq,ra⟩:=cJ g3 e1;refine .inl ⟨p,xs,rfl,hq,fun b hb kf=>?_⟩;have sn:Same H3 (upd H3 b (.lst (a70 xs l u))):=bH hb;exact k _ _ _ _ (tt.trans (.same sn)) (.ref b) (g3.put (u := .lst (cutD ds l u)) hb ⟨_,aF,(akP ra l u).mono (.same sn)⟩) (q3' b (iJ g3 hb kf))
    . exact q3'.elim
  | _=>exact False.elim q3
noncomputable def a76 (T:String) (G:Gp):D->Prop
  | .str _=>T = "str"
  | .ref p=>T = "list" /\ (bI G p).isSome=true
  | _=>False
theorem adV {K:Fg} (g:HR K H G) (r:RD K H x v) (h:a76 T G x):tyV K T v H:=by
  cases r with
  | str z=>exact h
  | ref p =>
    obtain ⟨rfl,h⟩:=h;obtain ⟨ds,e⟩:=wz.mp h;obtain ⟨xs,hq,_⟩:=cJ g e;exact .inl ⟨rfl,xs,hq⟩
  | _=>exact False.elim h
noncomputable abbrev RM3:=D->List D->Gp->fM->Prop
noncomputable def vW (X:Cx) (id:String) (r3:RM3):Prop :=
  ∀ (pins:List (Addr×Obj)) (s:Shared) (σ:St) (H:Hp) (x:D) (xs:List D) (vx:V) (vs:List V) (u:Value) (us:List Value) (G:Gp) (R:fM) (Q:VK),Inv X pins σ H s->RD X.K H x vx->bR X.K H xs vs->RelV vx u->Vals vs us->HR X.K H G->r3 x xs G R ->
    (∀ v H' d G',Ts H H'->RD X.K H' d v->HR X.K H' G'->R d G'->Q v H')->wpAny (model X.prog X.w) X.A (call (.builtin id) (u :: us)) (EP X pins σ Q) X.xe s
variable {r3:RM3}
theorem vW.of {r:V->List V->Hp->VK->Prop} (h:MtR X id r) (i:∀ (H:Hp) (x:D) (xs:List D) (vx:V) (vs:List V) (G:Gp) (R:fM) (Q:VK),RD X.K H x vx->bR X.K H xs vs->HR X.K H G->r3 x xs G R ->
    (∀ v H' d G',Ts H H'->RD X.K H' d v->HR X.K H' G'->R d G'->Q v H')->r vx vs H fun v H'=>KF X.K H'->Q v H'):vW X id r3:=fun pins s σ H x xs vx vs u us G R Q I rx rs ru rv g q k =>
  cR (h pins s σ H vx vs u us _ I ru rv (i H x xs vx vs G R Q rx rs g q k)) fun _ _ ⟨v,H',I',r,q'⟩=>⟨v,H',I',r,q' (uP I')⟩
noncomputable def tM3 (T:String) (r:RM3) (to:cF) (t:pL):cF:=fun ρ G R=>to ρ G fun x G1=>a76 T G1 x/\t ρ G1 fun xs G2=>r x xs G2 R
noncomputable def awW (T:String) (r:RM3) (to:cF):cF:=fun ρ G R=>to ρ G fun x G1=>a76 T G1 x/\r x [] G1 R
theorem adW {es:List Expr} {t:pL} {apos cpos:Pos} (pa:PlainAttrs T) (slot:Slot T name id) (hty:typeOf (.builtin id)=pure (.type "method_descriptor")) (hm:vW X id r3) (ho:cI X o to) (ha:PA3 X (e :: es) t)
    (hbase:attributeBase o name X.env (eval o X.env)=eval o X.env:=by rfl)
    (hfew:((backTo cpos (starEach (e :: es) X.env)).all (fun x=>!x.1)&&(backToKw cpos (keywordEach [] X.env)).all (fun x=>x.1.isSome)
      && decide ((e :: es).length+([]:List Keyword).length+(if ([]:List Keyword).isEmpty then 0 else 1) < 30))=true:=by rfl)
    (hline:(apos.endLine == cpos.line)=true:=by rfl) (hs:starEach (e :: es) X.env=(false,eval e X.env) :: starEach es X.env:=by rfl) (hplain:(backTo cpos (starEach es X.env)).any (·.1)=false:=by rfl) :
    cI X (.Call (.Attribute o name apos) (e :: es) [] cpos) (tM3 T r3 to t):=by
  intro pins s σ H Q I h _tk;obtain ⟨ρ,G,R,sr,g,q,kk⟩:=h;refine wpAny_Call_method_late hbase hfew hline rfl (cR (ho pins s σ H (fun vx H1=>Ts H H1/\∃ x G1,RD X.K H1 x vx/\HR X.K H1 G1/\a76 T G1 x/\t ρ G1 fun xs G2=>r3 x xs G2 R) I ⟨ρ,G,_,sr,g,q,fun v H1 x G1 t1 r1 g1 q1=>⟨t1,x,G1,r1,g1,q1⟩⟩) fun v s1 ⟨vx,H1,I1,r1,t1,x,G1,rx,g1,ty,q1⟩=>?_);obtain ⟨h1,h2⟩:=adN I1 r1 (adV g1 rx ty);refine ⟨T,id,pa,slot,hty,h1,h2,?_⟩;have hA:=ha cpos pins s1 σ H1 (fun vs H2=>Ts H1 H2/\∃ xs G2,bR X.K H2 xs vs/\HR X.K H2 G2/\r3 x xs G2 R) I1 ⟨ρ,G1,_,sr.mono t1,g1,q1,fun vs H2 xs G2 t2 r2 g2 q2=>⟨t2,xs,G2,r2,g2,q2⟩⟩;rw [hs] at hA ⊢;refine Calls.callWith_builtin (by show (false || (backTo cpos (starEach es X.env)).any (·.1))=false;rw [hplain] <;> rfl) (Calls.evalArgs_plain ?_);exact cR hA fun us s2 ⟨vs,H2,I2,r2,t2,xs,G2,rs,g2,q2⟩=>hm pins s2 σ H2 x xs vx vs v us G2 R Q I2 (rx.mono t2) rs r1 r2 g2 q2 fun v H' d G' t3=>kk v H' d G' ((t1.trans t2).trans t3)
theorem a4U {apos cpos:Pos} (pa:PlainAttrs T) (slot:Slot T name id) (hty:typeOf (.builtin id)=pure (.type "method_descriptor")) (hm:vW X id r3) (ho:cI X o to)
    (hbase:attributeBase o name X.env (eval o X.env)=eval o X.env:=by rfl) (hline:(apos.endLine == cpos.line)=true:=by rfl):cI X (.Call (.Attribute o name apos) [] [] cpos) (awW T r3 to):=by
  intro pins s σ H Q I h _tk;obtain ⟨ρ,G,R,sr,g,q,kk⟩:=h;refine wpAny_Call_method0_late hbase hline (cR (ho pins s σ H (fun vx H1=>Ts H H1/\∃ x G1,RD X.K H1 x vx/\HR X.K H1 G1/\a76 T G1 x/\r3 x [] G1 R) I ⟨ρ,G,_,sr,g,q,fun v H1 x G1 t1 r1 g1 q1=>⟨t1,x,G1,r1,g1,q1⟩⟩) fun v s1 ⟨vx,H1,I1,r1,t1,x,G1,rx,g1,ty,q1⟩=>?_);obtain ⟨h1,h2⟩:=adN I1 r1 (adV g1 rx ty);exact ⟨T,id,pa,slot,hty,h1,h2,Calls.callWith_builtin rfl (PySem.evalArgs_none (hm pins s1 σ H1 x [] vx [] v [] G1 R Q I1 rx .nil r1 .nil g1 q1 fun v H' d G' t3=>kk v H' d G' (t1.trans t3)))⟩
noncomputable def gC:RM3:=fun x xs G R=>match x,xs with
  | .ref p,[d]=>(match G p with
    | some (.lst ds)=>ds.length < sizeLine/\R .non (aM G p (.lst (ds++[d])))
    | _=>False)
  | _,_=>False
theorem abH:vW X "list.append" gC:=vW.of a7Y fun H x xs vx vs G R Q rx rs g q k=>by
  cases rx with
  | ref p =>
    cases rs with
    | nil=>exact False.elim q
    | @cons d v ds ws r rr =>
      cases rr with
      | cons _ _=>exact False.elim q
      | nil =>
        have q':(match G p with
          | some (.lst ds)=>ds.length < sizeLine/\R .non (aM G p (.lst (ds++[d])))
          | _=>False):=q
        split at q'
        . rename_i ds e1;obtain ⟨ys,f1,r1⟩:=g p _ e1;refine ⟨p,ys,v,rfl,rfl,f1,by rw [← r1.length];exact q'.1,fun _=>?_⟩;have tt:Ts H (upd H p (.lst (ys++[v]))) := .turn f1 (fun _ z=>nomatch z) (fun _ _ z=>nomatch z);exact k _ _ _ _ tt .non (g.turn (u := .lst (ds++[d])) tt ⟨_,aF,(r1.append (.cons r .nil)).mono tt⟩) q'.2
        . exact q'.elim
  | _=>cases rs <;> exact False.elim q
noncomputable def a9L:cF:=fun _ G R=>∀ p,G p=none->R (.ref p) (aM G p (.lX false []))
theorem awX:cI X (.Dict [] [] pos) a9L:=PE.imp (PE.kf ajW) fun σ H Q h=>by
  obtain ⟨ρ,G,R,s,g,q,k⟩:=h;intro p hp kf;have sn:Same H (upd H p (.dK [])):=bH hp;exact k _ _ _ _ (.same sn) (.ref p) (g.put (u := .lX false []) hp (.inl ⟨rfl,[],aF,.nil⟩)) (q p (iJ g hp kf))
noncomputable def a3H:cF:=fun _ G R=>∀ p,G p=none->R (.ref p) (aM G p (.lX true []))
theorem apV:cI X (.Dict [] [] pos) a3H:=PE.imp (PE.kf ajX) fun σ H Q h=>by
  obtain ⟨ρ,G,R,s,g,q,k⟩:=h;intro p hp kf;have sn:Same H (upd H p (.dT [])):=bH hp;exact k _ _ _ _ (.same sn) (.ref p) (g.put (u := .lX true []) hp (.inr ⟨rfl,[],aF,.nil⟩)) (q p (iJ g hp kf))
end
end
end L2
namespace L2
open PySem
theorem kW:bootBuiltins "isinstance" = some (.builtin "isinstance"):=by decide +kernel
theorem a9M:bootBuiltins "len" = some (.builtin "len"):=by decide +kernel
theorem adX:bootBuiltins "min" = some (.builtin "min"):=by decide +kernel
theorem awY:bootBuiltins "max" = some (.builtin "max"):=by decide +kernel
theorem awZ:bootBuiltins "sum" = some (.builtin "sum"):=by decide +kernel
theorem a9N:bootBuiltins "int" = some (.type "int"):=by decide +kernel
theorem afW:bootBuiltins "bool" = some (.type "bool"):=by decide +kernel
theorem ax0:bootBuiltins "str" = some (.type "str"):=by decide +kernel
theorem akQ:bootBuiltins "tuple" = some (.type "tuple"):=by decide +kernel
theorem apW:bootBuiltins "list" = some (.type "list"):=by decide +kernel
theorem a77:bootBuiltins "ValueError" = some (.type "ValueError"):=by decide +kernel
end L2
namespace L2
open PySem PySem.Spec PyProof.Rows
variable {cm:Bool}{tl:List (Addr×List V)}{P:Program}{tg e l:Expr}{H1:Hp}{xs:List D}{a:Addr}{vs:List V}{z:Str}{lo:Int}{n:Nat}{te:cF}{ta:pL}{pos:Pos}
section
noncomputable def Its (x:Str):It:=⟨fun i _=>i < x.cps.size,fun i H v H'=>H'=H/\∃ c,x.cps[i]?=some c/\v = .str ⟨#[c]⟩,fun i _=>x.cps.size<=i⟩
theorem a85 {w:World} {K:bx} (it:Addr) (x:Str) (t:Tok):Turn cm tl P w K tg (Its x) [it] it (fun i h=>h.IsStrIter it "str_ascii_iterator" x t (min i x.cps.size)) where
  mem:=by simp
  obj:=fun i h st b hb=>by
    have e:b=it:=by simpa using hb
    subst e;obtain ⟨o,e,c,d⟩:=st;exact ⟨o,e,fun v z=>by rw [d] at z;cases z⟩
  keep:=fun i h h' st k=>let ⟨o,e,r⟩:=st;⟨o,k it (by simp) o e,r⟩
  item:=by
    intro X hP hw hK hcm ht i pins s σ H E I hf st hg;subst hP hw hK;obtain ⟨f0,f1,f2,f3,f4,f5⟩:=hf it (by simp);have hi:i < x.cps.size:=hg;rw [zu (nj hi)] at st;refine wpAny_pyNext_ascii_item st (c:=x.cps[i]) (by simp [hi]) fun h' st' kk=>?_;have I1:Inv X pins σ H { s with heap:=h',toks:=s.toks+1 }:=I.turned (fun b o hb e=>(kk.2 b hb).trans e) f0 f1 f3 f4 f5;obtain ⟨o,e1,c1,d1⟩:=id st';refine ⟨_,rfl,aaZ (s:={ s with heap:=h',toks:=s.toks+1 }) e1 c1 d1 (by decide) ⟨.str ⟨#[x.cps[i]]⟩,H,I1,⟨_,rfl⟩,⟨rfl,x.cps[i],by simp [hi],rfl⟩,?_,fun b hb=>(hf b hb).1⟩⟩;rw [zu hi];exact st'
  done:=by
    intro X hP hw hK hcm ht i pins s σ H E I hf st hg;subst hP hw hK;obtain ⟨f0,f1,f2,f3,f4,f5⟩:=hf it (by simp);have hi:x.cps.size<=i:=hg;rw [Nat.min_eq_right hi] at st;exact ahO (I.hnd.heap I.hok) st (by simp) fun h' eb=>⟨rfl,I.turned (t':=s.toks) (fun b o hb e=>eb b o hb e) f0 f1 f3 f4 f5⟩
  self:=fun _ _ _ _ _ st h=>wpAny_pyIter_striter_ascii st h
theorem a86 {w:World} {K:bx} (it:Addr) (x:Str) (t:Tok):Turn cm tl P w K tg (Its x) [it] it (fun i h=>h.IsStrIter it "str_iterator" x t (min i x.cps.size)) where
  mem:=by simp
  obj:=fun i h st b hb=>by
    have e:b=it:=by simpa using hb
    subst e;obtain ⟨o,e,c,d⟩:=st;exact ⟨o,e,fun v z=>by rw [d] at z;cases z⟩
  keep:=fun i h h' st k=>let ⟨o,e,r⟩:=st;⟨o,k it (by simp) o e,r⟩
  item:=by
    intro X hP hw hK hcm ht i pins s σ H E I hf st hg;subst hP hw hK;obtain ⟨f0,f1,f2,f3,f4,f5⟩:=hf it (by simp);have hi:i < x.cps.size:=hg;rw [zu (nj hi)] at st;refine wpAny_pyNext_wide_item st (c:=x.cps[i]) (by simp [hi]) fun h' st' kk=>?_;have I1:Inv X pins σ H { s with heap:=h',toks:=s.toks+1 }:=I.turned (fun b o hb e=>(kk.2 b hb).trans e) f0 f1 f3 f4 f5;obtain ⟨o,e1,c1,d1⟩:=id st';refine ⟨_,rfl,aaZ (s:={ s with heap:=h',toks:=s.toks+1 }) e1 c1 d1 (by decide) ⟨.str ⟨#[x.cps[i]]⟩,H,I1,⟨_,rfl⟩,⟨rfl,x.cps[i],by simp [hi],rfl⟩,?_,fun b hb=>(hf b hb).1⟩⟩;rw [zu hi];exact st'
  done:=by
    intro X hP hw hK hcm ht i pins s σ H E I hf st hg;subst hP hw hK;obtain ⟨f0,f1,f2,f3,f4,f5⟩:=hf it (by simp);have hi:x.cps.size<=i:=hg;rw [Nat.min_eq_right hi] at st;exact ahP (I.hnd.heap I.hok) st (by simp) fun h' eb=>⟨rfl,I.turned (t':=s.toks) (fun b o hb e=>eb b o hb e) f0 f1 f3 f4 f5⟩
  self:=fun _ _ _ _ _ st h=>wpAny_pyIter_striter_wide st h
inductive Src where
  | lst (p:Addr) (xs:List D) | imm (xs:List D) | zip (p q:Addr) (xs ys:List D) | itm (p:Addr) (o:Obj) (kvs:List (DK×D)) | key (p:Addr) (o:Obj) (t:Bool) (kvs:List (DK×D)) | tpl (p:Addr) (xs:List D) | enu (p:Addr) (xs:List D)
noncomputable def enm (xs:List D):List D:=xs.zipIdx.map fun z => .tup [.int z.2,z.1]
noncomputable def prs (xs ys:List D):List D:=(xs.zip ys).map fun z => .tup [z.1,z.2]
noncomputable def Src.items:Src->List D
  | .lst _ xs=>xs
  | .imm xs=>xs
  | .zip _ _ xs ys=>prs xs ys
  | .itm _ _ kvs=>kvs.map fun z => .tup [dkD z.1,z.2]
  | .key _ _ _ kvs=>kvs.map fun z=>dkD z.1
  | .tpl _ xs=>xs
  | .enu _ xs=>enm xs
noncomputable def Src.ok (G:Gp):Src->Prop
  | .lst p xs=>bI G p=some xs
  | .imm _=>True
  | .zip p q xs ys=>bI G p=some xs/\bI G q=some ys
  | .itm p o kvs=>G p=some (.rdc o false kvs)
  | .key p o t kvs=>G p=some (.rdc o t kvs)
  | .tpl p xs=>G p=some (.tpl xs)
  | .enu p xs=>G p=some (.tpl xs)
noncomputable def abI (K:Fg) (H1:Hp) (src:Src) (J:It):Prop:=∀ H2 G2,Ts H1 H2->HR K H2 G2->src.ok G2 ->
  (∀ i,i < src.items.length->J.go i H2)/\(∀ i v H',i < src.items.length->J.yld i H2 v H'->Same H2 H'/\∃ d,src.items[i]?=some d/\RD K H' d v)/\J.stop src.items.length H2
noncomputable abbrev TI3:=aP->Gp->(Src->Gp->Prop)->Prop
noncomputable def upI (K:Fg) (t:TI3):TI:=fun σ H Q=>∃ ρ G R,SR K H ρ σ/\HR K H G/\t ρ G R/\∀ src J H' G',Ts H H'->HR K H' G'->abI K H' src J->R src G'->Q J H'
noncomputable abbrev PI3 (X:Cx) (tg iter:Expr) (t:TI3):Prop:=PI X tg iter (upI X.K t)
noncomputable def signs (z:Str):List D:=z.cps.toList.map fun c => .str ⟨#[c]⟩
noncomputable def vX (te:cF):TI3:=fun ρ G R=>te ρ G fun x G1=>match x with
  | .ref p=>(match bI G1 p with
    | some xs=>R (.lst p xs) G1
    | none=>False)
  | .tup xs=>R (.imm xs) G1
  | .str z=>R (.imm (signs z)) G1
  | _=>False
theorem a87 {K:Fg} {p:Addr}:abI K H1 (.lst p xs) (Itl K p):=fun H2 G2 t g ok=>by
  obtain ⟨vs,hq,rv⟩:=cJ g (show bI G2 p=some xs from ok);refine ⟨fun i hi=>?_,fun i v H' hi hy=>?_,⟨vs,hq,wu rv.length.symm⟩⟩
  . have hi':i < xs.length:=hi;obtain ⟨y,e1,_⟩:=rv.get (dh hi');exact ⟨vs,y,hq,e1⟩
  . obtain ⟨rfl,hy⟩:=hy;obtain ⟨d,e1,e2⟩:=rv.apA (hy vs hq);exact ⟨.refl _,d,e1,e2⟩
theorem abK {K:Fg} (hq:uL K H1 a vs) (rv:bR K H1 xs vs):abI K H1 (.imm xs) (Itt K a):=fun H2 G2 t g ok=>by
  have hq2:=t.sqT hq;have rv2:=rv.mono t;refine ⟨fun i hi=>?_,fun i v H' hi hy=>?_,⟨vs,hq2,wu rv.length.symm⟩⟩
  . have hi':i < xs.length:=hi;obtain ⟨y,e1,_⟩:=rv2.get (dh hi');exact ⟨vs,y,hq2,e1⟩
  . obtain ⟨rfl,hy⟩:=hy;obtain ⟨d,e1,e2⟩:=rv2.apA (hy vs hq2);exact ⟨.refl _,d,e1,e2⟩
theorem a4W {K:Fg}:abI K H1 (.imm (signs z)) (Its z):=fun H2 G2 t g ok=>by
  have hl:(signs z).length=z.cps.size:=by simp [signs]
  refine ⟨fun i hi=>?_,fun i v H' hi hy=>?_,?_⟩
  . have:i < (signs z).length:=hi;rw [hl] at this;exact this
  . obtain ⟨rfl,c,hc,rfl⟩:=hy;exact ⟨.refl _,.str ⟨#[c]⟩,by simp [Src.items,signs,hc],.str _⟩
  . show z.cps.size<=(signs z).length;rw [hl];exact bw _
theorem abL {K:Fg}:abI K H1 (.imm ((gk n).map fun (i:Nat) => .int (lo+(i:Int)))) (Itr lo n):=fun H2 G2 t g ok=>by
  refine ⟨fun i hi=>?_,fun i v H' hi hy=>?_,?_⟩
  . have hi':i < n:=by simpa [Src.items] using hi
    exact hi'
  . obtain ⟨rfl,rfl⟩:=hy;have hi':i < n:=by simpa [Src.items] using hi
    exact ⟨.refl _,.int (lo+i),by simp [Src.items,hi'],.int _⟩
  . show n<=_;simp [Src.items]
section
variable {X:Cx} {tg:Expr}
theorem PI.imp {t t':TI} (h:PI X tg e t) (k:∀ σ H Q,t' σ H Q->t σ H Q):PI X tg e t':=fun pins s σ H Q I q=>h pins s σ H Q I (k _ _ _ q)
theorem aCM (hl:cI X l te):PI3 X tg l (vX te):=by
  intro pins s σ H R I h _tk;obtain ⟨ρ,G,R3,sr,g,q,k⟩:=h
  refine cR (hl pins s σ H (fun v H1=>Ts H H1/\∃ x G1,RD X.K H1 x v/\HR X.K H1 G1/\(match x with
    | .ref p=>(match bI G1 p with
      | some xs=>R3 (.lst p xs) G1
      | none=>False)
    | .tup xs=>R3 (.imm xs) G1
    | .str z=>R3 (.imm (signs z)) G1
    | _=>False)) I ⟨ρ,G,_,sr,g,q,fun v H1 x G1 t1 r g1 q1=>⟨t1,x,G1,r,g1,q1⟩⟩) fun v s1 ⟨x,H1,I1,r1,t1,d,G1,rd,g1,q1⟩=>?_
  cases rd with
  | ref a =>
    have q1':(match bI G1 a with
      | some xs=>R3 (.lst a xs) G1
      | none=>False):=q1
    split at q1'
    . rename_i xs e;cases r1;obtain ⟨vs,hq,rv⟩:=cJ g1 e;obtain ⟨its,rv',p,hz⟩:=I1.list hq;refine wpAny_pyIter_list p.isList ?_;refine ⟨s1.heap.objs.size,[s1.heap.objs.size],_,_,H1,rfl,I1.kept (t':=s1.toks) fun b o e=>ao _ e,a7T a _,⟨_,dj _ rfl,rfl,rfl⟩,fun b hb=>?_,k _ _ H1 G1 t1 g1 a87 q1'⟩;have e:b=s1.heap.objs.size:=by simpa using hb
      subst e;exact I1.a3Y (bw _) (I1.hok.fresh (bw _))
    . exact q1'.elim
  | @tup a vs xs hq rv =>
    cases r1;obtain ⟨its,rv',p,hz⟩:=I1.tuple hq;refine wpAny_pyIter_tuple (show s1.heap.IsTuple a its.toArray from p) ?_;refine ⟨s1.heap.objs.size,[s1.heap.objs.size],_,_,H1,rfl,I1.kept (t':=s1.toks) fun b o e=>ao _ e,a3Z a _,⟨_,dj _ rfl,rfl,rfl⟩,fun b hb=>?_,k _ _ H1 G1 t1 g1 (abK hq rv) q1⟩;have e:b=s1.heap.objs.size:=by simpa using hb
    subst e;exact I1.a3Y (bw _) (I1.hok.fresh (bw _))
  | str z =>
    obtain ⟨t,rfl⟩:=r1;cases ha:z.cps.all (· < 128)
    . refine wpAny_pyIter_wide ha ?_;refine ⟨s1.heap.objs.size,[s1.heap.objs.size],_,_,H1,rfl,I1.kept (t':=s1.toks) fun b o e=>ao _ e,a86 _ z t,?_,fun b hb=>?_,k _ _ H1 G1 t1 g1 a4W q1⟩
      . rw [Nat.zero_min];exact ⟨_,dj _ rfl,rfl,rfl⟩
      . have e:b=s1.heap.objs.size:=by simpa using hb
        subst e;exact I1.a3Y (bw _) (I1.hok.fresh (bw _))
    . refine wpAny_pyIter_ascii ha ?_;refine ⟨s1.heap.objs.size,[s1.heap.objs.size],_,_,H1,rfl,I1.kept (t':=s1.toks) fun b o e=>ao _ e,a85 _ z t,?_,fun b hb=>?_,k _ _ H1 G1 t1 g1 a4W q1⟩
      . rw [Nat.zero_min];exact ⟨_,dj _ rfl,rfl,rfl⟩
      . have e:b=s1.heap.objs.size:=by simpa using hb
        subst e;exact I1.a3Y (bw _) (I1.hok.fresh (bw _))
  | _=>exact q1.elim
noncomputable def yJ (lo hi:Int):List D:=(gk (hi - lo).toNat).map fun (i:Nat) => .int (lo+(i:Int))
noncomputable def sS (ta:pL):TI3:=fun ρ G R=>ta ρ G fun xs G1=>match xs with
  | [.int j]=>-(2 ^ 62)<=j/\j < 2 ^ 62/\R (.imm (yJ 0 j)) G1
  | _=>False
theorem ax2 {a:Expr} {p:Pos} (hg:Gl X "range") (hm:X.mg "range" = none) (ha:PA3 X [a] ta) (hs:starEach [a] X.env=[(false,eval a X.env)]):PI3 X tg (.Call (.Name "range" p) [a] [] pos) (sS ta) :=
  PI.imp (a7U hg hm ha hs) fun σ H Q h=>by
  obtain ⟨ρ,G,R,s,g,q,k⟩:=h;refine ⟨ρ,G,_,s,g,q,fun vs H1 ds G1 t1 r g1 h1=>?_⟩;cases r with
  | nil=>exact h1.elim
  | cons r rr =>
    cases rr with
    | cons _ _=>cases r <;> exact False.elim h1
    | nil =>
      cases r with
      | int j =>
        obtain ⟨l1,l2,h1⟩:=h1;refine ⟨j,rfl,l1,l2,k _ _ H1 G1 t1 g1 ?_ h1⟩;unfold yJ;rw [show (j - 0).toNat=j.toNat by omega];exact abL
      | _=>exact False.elim h1
end
end
variable {scope:Scope}{env:Env}{i j:Nat}
section
noncomputable def o9 (cells:List (Str×Addr)):List (Str×NameKind)->List (Str×Addr)->List (Str×Addr)
  | [],cs=>cs
  | (n,k) :: r,cs=>o9 cells r (if k = .free then (match cells.lookup n with
    | some a=>(n,a) :: cs
    | none=>cs) else cs)
theorem rG (h:∀ y∈scope.names,y.2 = .free->∃ c,env.cells.lookup y.1=some c):closureFor scope env=pure (o9 env.cells scope.names []):=by
  unfold closureFor
  have all:∀ (l:List (Str×NameKind)) (cs:List (Str×Addr)),(∀ y∈l,y.2 = .free->∃ c,env.cells.lookup y.1=some c) ->
      (forIn l cs fun (x:Str×NameKind) (r:List (Str×Addr))=>(if (x.2 == NameKind.free)=true then do
        let a ← cellOf env x.1
        pure (ForInStep.yield ((x.1,a) :: r)) else pure (ForInStep.yield r):Sem (ForInStep (List (Str×Addr)))))=(pure (o9 env.cells l cs):Sem (List (Str×Addr))):=by
    intro l
    induction l with
    | nil=>intro cs _;rfl
    | cons y r ih =>
      intro cs hl;obtain ⟨n,k⟩:=y;rw [qp];by_cases hk:k = .free
      . subst hk;obtain ⟨c,hc⟩:=hl (n,.free) (by simp) rfl;have e:cellOf env n=pure c:=by unfold cellOf;rw [hc]
        simp only [beq_self_eq_true,if_true,e];show (forIn r ((n,c) :: cs) _:Sem _)=_;rw [ih _ fun y hy=>hl y (by simp [hy])];simp only [o9,if_true,hc]
      . have hk':(k == NameKind.free)=false:=by simpa using hk
        simp only [hk',jh,if_false];show (forIn r cs _:Sem _)=_;rw [ih _ fun y hy=>hl y (by simp [hy])];simp only [o9,if_neg hk]
  have z:=all scope.names [] h;exact congrArg (fun m=>m >>= fun cs=>pure cs) z
theorem iD {cells:List (Str×Addr)}:∀ {l:List (Str×NameKind)} {cs:List (Str×Addr)} {y:Str} {c:Addr},(o9 cells l cs).lookup y=some c->(∀ c,cs.lookup y=some c->cells.lookup y=some c)->cells.lookup y=some c
  | [],cs,y,c,h,k=>k c h
  | (n,kd) :: r,cs,y,c,h,k=>by
    unfold o9 at h;refine iD h fun c' h'=>?_;by_cases hk:kd = .free
    . rw [if_pos hk] at h';split at h'
      . rename_i a ha;rw [jf] at h';split at h'
        . rename_i e;have e':y=n:=beq_iff_eq.mp e;subst e';rw [ha];exact h'
        . exact k c' h'
      . exact k c' h'
    . rw [if_neg hk] at h';exact k c' h'
theorem a4X {cells:List (Str×Addr)}:∀ {l:List (Str×NameKind)} {cs:List (Str×Addr)} {y:Str},(∃ c,cs.lookup y=some c)->∃ c,(o9 cells l cs).lookup y=some c
  | [],cs,y,h=>h
  | (n,kd) :: r,cs,y,h=>by
    unfold o9;refine a4X ?_;by_cases hk:kd = .free
    . rw [if_pos hk];split
      . rw [jf];split
        . exact ⟨_,rfl⟩
        . exact h
      . exact h
    . rw [if_neg hk];exact h
theorem a1W {cells:List (Str×Addr)} {y:Str} {c:Addr} (hc:cells.lookup y=some c):∀ {l:List (Str×NameKind)} {cs:List (Str×Addr)},(y,NameKind.free)∈l->∃ c,(o9 cells l cs).lookup y=some c
  | [],cs,h=>by simp at h
  | (n,kd) :: r,cs,h=>by
    unfold o9;rcases jq.mp h with e | h
    . cases e;refine a4X ?_;rw [if_pos rfl,hc];simp
    . exact a1W hc h
theorem mem_of_lookup {α:Type}:∀ {l:List (Str×α)} {y:Str} {k:α},l.lookup y=some k->(y,k)∈l
  | [],_,_,h=>by simp at h
  | (n,kd) :: r,y,k,h=>by
    rw [jf] at h;split at h
    . rename_i e;have e':y=n:=beq_iff_eq.mp e;cases h;subst e';simp
    . exact iw _ (mem_of_lookup h)
structure sU (X:Cx) (xs:List Str) (scope:Scope):Prop where
  kind:scope.kind = .function
  adY:∀ y∈scope.names,y.2 ≠ .cell
  locs:∀ y∈scope.names,y.2 = .local->scope.names.lookup y.1=some .local
  var:∀ x∈xs,scope.names.lookup x=some .local
  frees:∀ y∈scope.names,y.2 = .free->X.env.kindOf y.1=some .cell∨X.env.kindOf y.1=some .free
  out:∀ x∈xs,x ∉ X.N
  nd:xs.Nodup
  only:∀ y∈X.N,scope.names.lookup y≠some .local
noncomputable abbrev iQ (X:Cx) (xs:List Str) (scope:Scope) (C:Addr) (s₃:Shared) (H₃:Hp) (fp:List Addr) (pins:List (Addr×Obj)):Cx :=
  { X with N:=xs++X.N,s₀:=s₃,H₀:=H₃,env:=compEnvC scope (o9 X.env.cells scope.names []) C X.env,outer:=X.stack,stack:=X.stack,ex:=fp,fn:=fun _=>false,pn:=X.pn++pins,xe:=fun _ _=>False,need:=false }
noncomputable def nn (xs:List Str) (σ:St):St:=xs.map (fun _=>none)++σ
theorem akR {xs:List Str} {σ:St} {v:V} (h:(nn xs σ)[i]?=some (some v)):∃ j,i=xs.length+j/\σ[j]?=some (some v):=by
  unfold nn at h;by_cases c:i < xs.length
  . rw [qu (by simpa using c)] at h;simp at h
  . rw [qd (by simpa using c)] at h;exact ⟨i - xs.length,by omega,by simpa using h⟩
theorem afX {α:Type} {xs ys:List α}:(xs++ys)[xs.length+j]?=ys[j]?:=by
  rw [qd (by omega)];congr 1;omega
theorem dM {env:Env} {y:Str} {k:NameKind}:∀ {names:List (Str×NameKind)},(names.map fun (n,k)=>if (k == .free&&env.scope.kind == .function&&env.kindOf n == some .cell) then (n,.cell) else (n,k)).lookup y=some k ->
    ∃ k',names.lookup y=some k'/\(k=k'∨(k = .cell/\k' = .free))
  | [],h=>by simp at h
  | (n,kd) :: r,h=>by
    rw [iu] at h;by_cases hc:(kd == .free&&env.scope.kind == .function&&env.kindOf n == some .cell)=true
    . have h':List.lookup y ((n,NameKind.cell) :: (r.map fun (n,k)=>if (k == .free&&env.scope.kind == .function&&env.kindOf n == some .cell) then (n,.cell) else (n,k)))=some k:=by
        simp only [hc,if_true] at h;exact h
      rw [jf] at h' ⊢;cases hx:y == n with
      | true =>
        rw [hx] at h';cases h';refine ⟨kd,rfl,.inr ⟨rfl,?_⟩⟩;simp only [ak,beq_iff_eq] at hc;exact hc.1.1
      | false =>
        rw [hx] at h';exact dM h'
    . have h':List.lookup y ((n,kd) :: (r.map fun (n,k)=>if (k == .free&&env.scope.kind == .function&&env.kindOf n == some .cell) then (n,.cell) else (n,k)))=some k:=by
        simp only [hc,if_false] at h;exact h
      rw [jf] at h' ⊢;cases hx:y == n with
      | true =>
        rw [hx] at h';cases h';exact ⟨_,rfl,.inl rfl⟩
      | false =>
        rw [hx] at h';exact dM h'
end
variable {b:Addr}{tk:Nat}{H':Hp}{s':Shared}{h':Heap}
section
section
variable {X:Cx} {xs:List Str} {scope:Scope} {C:Addr} {pins:List (Addr×Obj)} {σ:St} {H H₃:Hp} {s s₃:Shared} {fp:List Addr}
theorem a9O (I:Inv X pins σ H s) (hb:b∈frs X.stack):b=X.env.locals∨b∈X.fs:=jq.mp (I.adD b hb)
theorem ax3 (I:Inv X pins σ H s) (c:sU X xs scope) (hC:s.heap.objs.size<=C) (hf:∀ b∈fp,nU X pins H b/\b < s.heap.objs.size):(iQ X xs scope C s H fp pins).Ok where
  mod:=I.ok.mod
  kind:=c.kind
  glob:=I.ok.glob
  blt:=I.ok.blt
  above:=hC
  inj:=fun y z d h1 h2=>I.ok.inj y z d (iD h1 fun _ h=>by simp at h) (iD h2 fun _ h=>by simp at h)
  has:=fun y h=>by
    have hy:(y,NameKind.free)∈scope.names:=by
      rcases h with h | h
      . obtain ⟨k',e,z⟩:=dM (env:=X.env) (names:=scope.names) h;rcases z with z | ⟨_,z⟩
        . subst z;exact absurd rfl (c.adY _ (mem_of_lookup e))
        . subst z;exact mem_of_lookup e
      . obtain ⟨k',e,z⟩:=dM (env:=X.env) (names:=scope.names) h;rcases z with z | ⟨z,_⟩
        . subst z;exact mem_of_lookup e
        . cases z
    obtain ⟨d,hd⟩:=I.ok.has y (c.frees _ hy rfl);exact a1W hd hy
  cab:=fun _ _ h=>absurd h (by simp)
  hd:=I.ok.hd
  frames:=I.ok.frames
  stk := .inl rfl
  exf:=fun b hb=>by
    obtain ⟨⟨f0,f1,f2,f3,f4,f5⟩,lt⟩:=hf b hb;exact ⟨dw (dg lt hC),fun y d h=>f4 y d (iD h fun _ h=>by simp at h)⟩
  bs:=fun b o e=>I.bs b o e
  bsz:=jd I.ok.bsz I.sz
  a2V:=fun b o e hb=>by
    obtain ⟨⟨f0,f1,f2,f3,f4,f5⟩,lt⟩:=hf b hb;rcases f3 with z | z
    . exact I.ok.a2V b o e z
    . exact absurd (dg (cu e) (jd I.ok.bsz z)) (mj _)
  a3V:=fun b hb hs=>by
    obtain ⟨⟨f0,f1,f2,f3,f4,f5⟩,lt⟩:=hf b hb;rcases a9O I hs with z | z
    . exact f1 z
    . exact f2 z
  mQ:=I.stack
  frf:=fun b hb=>I.a8Z b hb
theorem ax4 (I:Inv X pins σ H s) (c:sU X xs scope) (hC:s.heap.objs.size=C) (hf:∀ b∈fp,nU X pins H b/\b < s.heap.objs.size) {h₁:Heap} {m:Str->Option Value} (hn:h₁.Ns C m) (hk:∀ b o,s.heap.get? b=some o->h₁.get? b=some o) :
    Inv (iQ X xs scope C s H fp pins) [] (nn xs σ) H { s with heap:=h₁,toks:=tk }:=by
  have lt:∀ b o,s.heap.get? b=some o->b≠C:=fun b o e=>by rw [← hC];exact dw (cu e)
  refine ⟨ax3 I c (wu hC) hf,rfl,I.bare,Un.kept hk,⟨m,hn,fun i y v e1 e2 e3=>?_⟩,fun y d e=>?_,I.hok.fresh (wu hC),fun y d e=>I.fZ y d (iD e fun _ h=>by simp at h),fun p hp=>?_,I.hok.kept hk,by simp [nn,I.len],I.hnd,I.tup⟩
  . obtain ⟨i,rfl,e2'⟩:=akR e2
    . have e1':X.N[i]?=some y:=afX.symm.trans e1;have hy:y∈X.N:=jk e1'
      have free:(y,NameKind.free)∈scope.names:=by
        have e3':∃ k,(relabel scope X.env).names.lookup y=some k/\(k = .local∨k = .cell∨k = .free):=by
          rcases e3 with h | h | h
          . exact ⟨_,h,.inl rfl⟩
          . exact ⟨_,h,.inr (.inl rfl)⟩
          . exact ⟨_,h,.inr (.inr rfl)⟩
        obtain ⟨k,h,hk⟩:=e3';obtain ⟨k',e,z⟩:=dM (env:=X.env) (names:=scope.names) h;rcases z with z | ⟨_,z⟩
        . subst z;rcases hk with rfl | rfl | rfl
          . exact absurd e (c.only y hy)
          . exact absurd rfl (c.adY _ (mem_of_lookup e))
          . exact mem_of_lookup e
        . subst z;exact mem_of_lookup e
      have hkd:=c.frees _ free rfl;obtain ⟨m',hn',hlo⟩:=I.loc;have vis:Vis X.env.scope y:=hkd.elim (fun z => .inr (.inl z)) fun z => .inr (.inr z);obtain ⟨u,r,l⟩:=hlo i y v e1' e2' vis;refine ⟨u,r,.inr ⟨?_,?_⟩⟩
      . rcases e3 with h | h | h
        . obtain ⟨k',e,z⟩:=dM (env:=X.env) (names:=scope.names) h;rcases z with z | ⟨z,_⟩
          . subst z;exact absurd e (c.only y hy)
          . cases z
        . exact .inl h
        . exact .inr h
      . rcases l with ⟨hl,_⟩ | ⟨_,d,hd,hcell⟩
        . rcases hkd with z | z
          . rw [z] at hl;cases hl
          . rw [z] at hl;cases hl
        . obtain ⟨d',hd'⟩:=a1W (cells:=X.env.cells) (l:=scope.names) (cs:=[]) hd free;have:=iD hd' fun _ h=>by simp at h
          rw [hd] at this;cases this;refine ⟨d,hd',?_⟩;obtain ⟨o,ho,hod⟩:=hcell;exact ⟨o,hk _ _ ho,hod⟩
  . obtain ⟨w,o,ho,hod⟩:=I.cell y d (iD e fun _ h=>by simp at h);exact ⟨w,o,hk _ _ ho,hod⟩
  . have hp':p∈X.pn++pins:=by simpa using hp
    obtain ⟨e,n,ne,nf,d⟩:=I.pin p hp';refine ⟨hk _ _ e,n,lt _ _ e,fun z=>?_,d⟩;rcases a9O I z with z | z
    . exact ne z
    . exact nf z
theorem apY (I:Inv X pins σ H s) (hC:s.heap.objs.size=C) (hf:∀ b∈fp,nU X pins H b/\b < s.heap.objs.size) {vC:List (Addr×Obj)} {σ':St} (J:Inv (iQ X xs scope C s H fp pins) vC σ' H' s') (hs:iy C s'.heap h') :
    Inv X pins σ H' { s' with heap:=h',toks:=tk }:=by
  have ne:∀ b o,s.heap.get? b=some o->b≠C:=fun b o e=>by rw [← hC];exact dw (cu e)
  have u:Un (frs X.stack) fp H H' s.heap s'.heap:=J.base;have hfree:H' C=none:=J.free;refine I.call' (ch:=fp) J.os ⟨fun b o e n hb hx=>?_,fun b o e n hb hx=>?_,u.free,fun b o e hx=>?_,u.tups,u.dI,u.mL⟩ (fun b o e=>?_) J.bare (fun b hb=>?_)
  . exact (hs.2 b (ne b o e)).trans (u.keep b o e n hb hx)
  . obtain ⟨sl,e1⟩:=u.slot b o e n hb hx;exact ⟨sl,(hs.2 b (ne b o e)).trans e1⟩
  . obtain ⟨o',e1⟩:=u.there b o e hx;exact ⟨o',(hs.2 b (ne b o e)).trans e1⟩
  . refine (J.hok b o e).stay (fun d w hd q=>(hs.2 d ?_).trans q) (fun _ q=>q) fun _ _ q=>q;rintro rfl;rcases hd with z | z
    . rw [z] at hfree;rw [e] at hfree;cases hfree
    . rw [hfree] at z;cases z
  . obtain ⟨⟨f0,f1,f2,f3,f4,f5⟩,lt⟩:=hf b hb;exact ⟨f3,f1,f4,f5⟩
end
end
variable {X:Cx}{c:Expr}{tc:xK}{pins:List (Addr×Obj)}{C:Addr}{s:Shared}{A:Around}{R:fM}{H:Hp}{ρ:aP}{fp:List Addr}{d:D}{ds:List D}{N:List Str}{y:Str}
section
noncomputable def vY:xK:=fun _ G R=>R true G
noncomputable def aiD (X:Cx) (ifs:List Expr) (tc:xK):Prop :=
  ∀ (pins:List (Addr×Obj)) (s:Shared) (σ:St) (H:Hp) (Q:Bool->Hp->Prop),Inv X pins σ H s->upT X.K tc σ H Q->[Tk X.need s] ->
    wpAny (model X.prog X.w) X.A (forIn ifs true fun c r=>if r=true then do let ok ← isTrue c X.env (eval c X.env);pure (ForInStep.yield ok) else pure (ForInStep.yield r)) (TP X pins σ Q) X.xe s
theorem apZ:aiD X [] vY:=fun pins s σ H Q I h=>by
  obtain ⟨ρ,G,R,sr,g,q,k⟩:=h;exact aq ⟨H,I,k true H G (.refl H) g q⟩
theorem aq0 (hc:PT3 X c tc):aiD X [c] tc:=fun pins s σ H Q I h=>by
  rw [qp];simp only [if_true];refine aj (aj (cR (hc pins s σ H Q I h) fun b s1 q=>?_));intro aAK;exact aq (aq q)
section
variable {X:Cx} {x:Str} {xs:List Str} {tgt:Expr} {dv:D->Option (List D)} {scope:Scope} {iter elt:Expr} {ifs:List Expr} {px pos:Pos} {ti:TI3} {tc:xK} {te:cF}
structure aq1 (X:Cx) (pins:List (Addr×Obj)) (H':Hp) (C:Addr) (h:Heap):Prop where
  ns:∃ m,h.Ns C m
  free:H' C=none
  loc:C≠X.env.locals
  young:X.s₀.heap.objs.size<=C
  cells:∀ y d,X.env.cells.lookup y=some d->d≠C
  pins:∀ p∈X.pn++pins,p.1≠C
theorem aq1.turn {σ:St} (o:aq1 X pins H' C s.heap) (I:Inv X pins σ H' s) (hs:iy C s.heap h'):Inv X pins σ H' { s with heap:=h' } :=
  I.turned (t':=s.toks) (fun b ob hb e=>(hs.2 b hb).trans e) o.free o.loc (.inr o.young) o.cells o.pins
noncomputable def akS (Y:Cx) (tgt:Expr) (xs:List Str) (dv:D->Option (List D)) (σ:St):Prop:=∀ (pins:List (Addr×Obj)) (s:Shared) (H:Hp) (v:V) (u:Value) (d:D) (ds:List D),Inv Y pins (nn xs σ) H s->RelV v u->RD Y.K H d v->dv d=some ds ->
  wpAny (model Y.prog Y.w) Y.A (assign tgt Y.env u) (fun _ s'=>∃ vs,bR Y.K H ds vs/\Inv Y pins (vs.map some++σ) H s') Y.xe s
theorem akT {K:Fg} {H:Hp} {ρ:aP} {σ:St} (s:SR K H ρ σ):∀ {ds:List D} {vs:List V},bR K H ds vs->SR K H (ds.map some++ρ) (vs.map some++σ)
  | _,_,.nil=>s
  | _,_,.cons h r => .some h (akT s r)
theorem akU {prog:Program} {w:World} {R:Result->Shared->Prop} {elt target iter:Expr} {ifs:List Expr} {it acc:Value} (J:Nat->Shared->Prop)
    (turn:∀ n s,J n s->wpAny (model prog w) A (pyNext it) (fun r s1=>match r with
      | none=>R (.ok .next) s1
      | some v=>wpAny (model prog w) A (letOwnedTupleGo target it v) (fun _ s1'=>wpAny (model prog w) A (assign target env v) (fun _ s2 =>
          wpAny (model prog w) A (forIn ifs true fun c r=>if r=true then do let ok ← isTrue c env (eval c env);pure (ForInStep.yield ok) else pure (ForInStep.yield r)) (fun ok s3 =>
            if ok=true then wpAny (model prog w) A (eval elt env) (fun x s4 =>
              wpAny (model prog w) A (call (.builtin "list.append") [acc,x]) (fun _ s5=>∃ m,m < n/\J m s5) (notedBy (model prog w) A env fun e s'=>R (.error e) s') s4) (notedBy (model prog w) A env fun e s'=>R (.error e) s') s3
            else ∃ m,m < n/\J m s3) (notedBy (model prog w) A env fun e s'=>R (.error e) s') s2) (notedBy (model prog w) A env fun e s'=>R (.error e) s') s1') (notedBy (model prog w) A env fun e s'=>R (.error e) s') s1) (notedBy (model prog w) A env fun e s'=>R (.error e) s') s)
    (n:Nat) (h:J n s):codeAny (model prog w) A (.compLoop (.ListComp elt [⟨target,iter,ifs,0⟩] scope pos) 0 it acc env) R s:=by
  refine codeAny_loop rfl J (fun n s hJ=>?_) n h;show wpAny _ A ((compTurn (.ListComp elt [⟨target,iter,ifs,0⟩] scope pos) 0 it acc env).onRaise (fun z=>do noteFrame z env;theTreesLotGoes z)) _ _ s;refine wpAny_noted ?_;rw [compTurn_list];refine aj (wpAny_standAt (aj (wpAny_mono (turn n s hJ) (fun r s1 h1=>?_) fun _ _ z=>z)));cases r with
  | none=>exact aq h1
  | some v =>
    refine aj (wpAny_mono h1 (fun _ s1' h1'=>?_) fun _ _ z=>z);refine aj (wpAny_mono h1' (fun _ s2 h2=>aj (wpAny_mono h2 (fun ok s3 h3=>?_) fun _ _ z=>z)) fun _ _ z=>z);cases ok with
    | false=>exact aq ⟨rfl,h3⟩
    | true=>exact aj (aj (wpAny_mono h3 (fun x s4 h4=>aj (wpAny_mono h4 (fun _ s5 h5=>aq (aq ⟨rfl,h5⟩)) fun _ _ z=>z)) fun _ _ z=>z))
theorem a88 (c:sU X xs scope) (hT:∀ C s H fp pins σ,akS (iQ X xs scope C s H fp pins) tgt xs dv σ) (hdv:∀ d ds,dv d=some ds->ds.length=xs.length) (hc:∀ C s H fp pins,aiD (iQ X xs scope C s H fp pins) ifs tc) (he:∀ C s H fp pins,cI (iQ X xs scope C s H fp pins) elt te) {s2:Shared} {σ:St} {H2:Hp} {G1:Gp} {it:Addr} {tn:Nat->Heap->Prop} {J:It} {src:Src} {RR:Value->Addr->Result->Shared->Prop} (sr:SR X.K H ρ σ) (I2:Inv X pins σ H2 s2) (T:Turn X.calm X.tp X.prog X.w X.K tgt J fp it tn) (st2:tn 0 s2.heap) (f2:∀ b∈fp,nU X pins H2 b) (t1:Ts H H2) (g1:HR X.K H2 G1) (sj:abI X.K H2 src J)
    (hlen:src.items.length < sizeLine) (body:∀ p,G1 p=none->∃ P:Nat->List D->Gp->Prop,P 0 [] (aM G1 p (.lst [])) /\
      (∀ k ds G,k<=src.items.length->P k ds G->src.ok G/\G p=some (.lst ds)/\ds.length<=k) /\
      (∀ k d ds G,src.items[k]?=some d->P k ds G->∃ ys,dv d=some ys/\tc (ys.map some++ρ) G fun b G2=>if b=true then te (ys.map some++ρ) G2 fun y G3=>G3 p=some (.lst ds)/\P (k+1) (ds++[y]) (aM G3 p (.lst (ds++[y]))) else P (k+1) ds G2) /\
      ∀ ds G,P src.items.length ds G->∃ G0,Le G0 G/\R (.ref p) G0)
    (hRR:∀ Da C s5 H' G0,Inv X pins σ H' s5->aq1 X pins H' C s5.heap->Ts H H'->HR X.K H' G0->R (.ref Da) G0->RR (.ref Da) C (.ok .next) s5) :
    wpAny (model X.prog X.w) X.A (newList []) (fun acc s₃=>wpAny (model X.prog X.w) X.A (newFunctionEnv scope X.env.globals (o9 X.env.cells scope.names []) [] X.env.qual none .none (some X.env)) (fun cenv s₄ =>
      codeAny (model X.prog X.w) X.A (.compStart (.ListComp elt [⟨tgt,iter,ifs,0⟩] scope pos) 0 (.ref it) acc { cenv with scope:=relabel scope X.env }) (RR acc cenv.locals) s₄) X.xe s₃) X.xe s2:=by
  refine wpAny_newObj_type ?_;have I3:=I2.aBE (its:=[]) (ys:=[]) (t':=s2.toks) .nil (by decide);have hD:H2 s2.heap.objs.size=none:=I2.fresh;have kf:=uP I3;have gD:G1 s2.heap.objs.size=none:=iJ g1 hD kf;obtain ⟨P,p0,pok,pst,pend⟩:=body _ gD
  have ltD:∀ b∈fp,b < s2.heap.objs.size:=fun b hb=>by
    obtain ⟨o,e,_⟩:=T.obj 0 _ st2 b hb;exact cu e
  have hsz3:(s2.heap.push { cls := .type "list",data := .seq ([]:List Value).toArray }).objs.size=s2.heap.objs.size+1:=qm ..
  have hf3:∀ b∈fp,nU X pins (upd H2 s2.heap.objs.size (.lst [])) b/\b < (s2.heap.push { cls := .type "list",data := .seq ([]:List Value).toArray }).objs.size:=fun b hb=>by
    obtain ⟨f0,fr⟩:=f2 b hb;exact ⟨⟨by rw [aJ (dw (ltD b hb))];exact f0,fr⟩,by rw [hsz3];exact Nat.lt_succ_of_lt (ltD b hb)⟩
  refine wpAny_newFunctionEnv c.adY (by intro y hy;simp at hy) (fun h₁ hns₁ hsb₁=>?_) c.kind;dsimp only at hns₁ hsb₁ ⊢;generalize hH3:s2.heap.push { cls := .type "list",data := .seq ([]:List Value).toArray }=h3 at *;generalize hDe:s2.heap.objs.size=Da at *;have at9:∀ b o,h3.get? b=some o->h₁.get? b=some o:=fun b o e=>hsb₁.extBut b o (dw (cu e)) (ao _ e)
  show codeAny (model X.prog X.w) X.A (Code.compStart (elt.ListComp [{ target:=tgt,iter:=iter,ifs:=ifs,is_async:=0 }] scope pos) 0 (Value.ref it) (Value.ref Da) (compEnvC scope (o9 X.env.cells scope.names []) h3.objs.size X.env))
    (RR (.ref Da) h3.objs.size) { s2 with heap:=h₁,toks:=s2.toks+([]:List (Str×Value)).length }
  have J0:=ax4 (tk:=s2.toks+([]:List (Str×Value)).length) I3 c rfl hf3 hns₁ at9;have st1:tn 0 h₁:=T.keep _ _ _ st2 fun b hb o e=>at9 b o (by rw [← hH3];exact ao _ e);have g0:HR X.K (upd H2 Da (.lst [])) (aM G1 Da (.lst [])):=g1.put (u := .lst []) hD ⟨[],aF,.nil⟩;have ts0:Ts H2 (upd H2 Da (.lst [])) := .same (bH hD)
  have loop:∀ s₄:Shared,Inv (iQ X xs scope h3.objs.size { s2 with heap:=h3,toks:=s2.toks } (upd H2 Da (.lst [])) fp pins) [] (nn xs σ) (upd H2 Da (.lst [])) s₄->tn 0 s₄.heap ->
      codeAny (model X.prog X.w) X.A (.compLoop (.ListComp elt [⟨tgt,iter,ifs,0⟩] scope pos) 0 (.ref it) (.ref Da) (compEnvC scope (o9 X.env.cells scope.names []) h3.objs.size X.env)) (RR (.ref Da) h3.objs.size) s₄:=by
    intro s₄ J4 st4
    refine akU (fun n s'=>∃ i ds H' G',Inv (iQ X xs scope h3.objs.size { s2 with heap:=h3,toks:=s2.toks } (upd H2 Da (.lst [])) fp pins) [] (nn xs σ) H' s'/\tn i s'.heap/\(∀ b∈fp,H' b=none)/\HR X.K H' G'/\P i ds G'/\i<=src.items.length/\n=src.items.length - i/\Ts H2 H') (fun n s' hI=>?_) src.items.length
      ⟨0,[],_,_,J4,st4,fun b hb=>(hf3 b hb).1.1,g0,p0,oh _,by simp,ts0⟩
    obtain ⟨i,ds,H',G',J,st,fr,g',p,hi',rfl,ts⟩:=hI;obtain ⟨ok,hDl,hdl⟩:=pok i ds G' hi' p;obtain ⟨sgo,aHP,aCO⟩:=sj H' G' ts g' ok
    have fpX:∀ {H':Hp},(∀ b∈fp,H' b=none)->∀ b∈fp,nU (iQ X xs scope h3.objs.size { s2 with heap:=h3,toks:=s2.toks } (upd H2 Da (.lst [])) fp pins) [] H' b:=fun hn b hb=>by
      obtain ⟨⟨f0,f1,f2',f3,f4,f5⟩,lt⟩:=hf3 b hb;refine ⟨hn b hb,dw lt,fun hs=>?_,.inl hb,fun y d e=>f4 y d (iD e fun _ h=>by simp at h),fun p' hp'=>f5 p' (by simpa using hp')⟩;rcases a9O I3 hs with z | z
      . exact f1 z
      . exact f2' z
    by_cases hlt:i < src.items.length
    . refine wpAny_mono (T.item (iQ X xs scope h3.objs.size { s2 with heap:=h3,toks:=s2.toks } (upd H2 Da (.lst [])) fp pins) rfl rfl rfl (fun h=>h) (fun _ h=>h) i [] s' (nn xs σ) H' (fun _ _=>False) J (fpX fr) st (sgo i hlt)) (fun r s5 ⟨u,hr,h5⟩=>?_) fun _ _ z=>z.elim;subst hr
      obtain ⟨d0,ys,hd0,ey,aHR⟩:∃ d ys,src.items[i]?=some d/\dv d=some ys/\tc (ys.map some++ρ) G' fun b G2=>if b=true then te (ys.map some++ρ) G2 fun y G3=>G3 Da=some (.lst ds)/\P (i+1) (ds++[y]) (aM G3 Da (.lst (ds++[y]))) else P (i+1) ds G2:=by
        have hd:src.items[i]?=some src.items[i]:=dh hlt;obtain ⟨ys,e,z⟩:=pst i _ ds G' hd p;exact ⟨_,ys,hd,e,z⟩
      show wpAny _ _ (letOwnedTupleGo tgt (.ref it) u) _ _ s5;refine wpAny_mono h5 (fun _ s6 ⟨vx,H6,I6,r6,y6,st6,fr6⟩=>?_) fun _ _ z=>z.elim;obtain ⟨sm,d,hd,rd⟩:=aHP i vx H6 hlt y6;have g':=g'.same sm;have ts:=ts.trans (.same sm);obtain rfl:d0=d:=gw.inj (hd0.symm.trans hd);have I6':=I6.pinned (fpX fr6) (T.obj _ _ st6);refine wpAny_mono (hT _ _ _ _ _ _ _ s6 H6 vx u _ _ I6' r6 rd ey) (fun _ s7 ⟨vs,rvs,I7⟩=>?_) fun _ _ z=>z.elim;have lv:vs.length=xs.length:=by rw [← rvs.length];exact hdv _ _ ey
      have akV:∀ {s'':Shared} {σ'':St} {H'':Hp},Inv (iQ X xs scope h3.objs.size { s2 with heap:=h3,toks:=s2.toks } (upd H2 Da (.lst [])) fp pins) ([]++a1M fp s6.heap) σ'' H'' s''->tn (i+1) s''.heap/\∀ b∈fp,H'' b=none:=fun I''=>by
        refine ⟨T.keep _ _ _ st6 fun b hb o e=>(I''.pin (b,o) (jg _ (jg _ (sG hb e)))).1,fun b hb=>?_⟩;obtain ⟨o,e,_⟩:=T.obj _ _ st6 b hb;exact (I''.pin (b,o) (jg _ (jg _ (sG hb e)))).2.1
      have down:∀ {s'':Shared} {H'':Hp},Inv (iQ X xs scope h3.objs.size { s2 with heap:=h3,toks:=s2.toks } (upd H2 Da (.lst [])) fp pins) ([]++a1M fp s6.heap) (vs.map some++σ) H'' s''->Inv (iQ X xs scope h3.objs.size { s2 with heap:=h3,toks:=s2.toks } (upd H2 Da (.lst [])) fp pins) [] (nn xs σ) H'' s'':=fun I'' =>
        I''.zY.weak (by simp [nn,lv]) fun j v e=>by
          obtain ⟨j',rfl,e'⟩:=akR e;rw [← lv,show vs.length=(vs.map some).length by simp,afX];exact e'
      have sr7:SR X.K H6 (ys.map some++ρ) (vs.map some++σ):=akT (sr.mono (t1.trans ts)) rvs
      refine wpAny_mono (hc _ _ _ _ _ _ s7 (vs.map some++σ) H6 (fun b H8=>Ts H6 H8/\∃ G8,HR X.K H8 G8/\(if b=true then te (ys.map some++ρ) G8 fun y G3=>G3 Da=some (.lst ds)/\P (i+1) (ds++[y]) (aM G3 Da (.lst (ds++[y]))) else P (i+1) ds G8)) I7
        ⟨ys.map some++ρ,G',_,sr7,g',aHR,fun b H8 G8 t8 g8 q8=>⟨t8,G8,g8,q8⟩⟩) (fun b s8 ⟨H8,I8,t8,G8,g8,q8⟩=>?_) fun _ _ z=>z.elim
      cases b with
      | false =>
        rw [if_neg (by decide)];have q8':P (i+1) ds G8:=by simpa using q8
        obtain ⟨a1,a2⟩:=akV I8;exact ⟨src.items.length - (i+1),by omega,i+1,ds,H8,G8,down I8,a1,a2,g8,q8',hlt,rfl,ts.trans t8⟩
      | true =>
        rw [if_pos rfl];have q8':te (ys.map some++ρ) G8 fun y G3=>G3 Da=some (.lst ds)/\P (i+1) (ds++[y]) (aM G3 Da (.lst (ds++[y]))):=by simpa using q8
        refine wpAny_mono (he _ _ _ _ _ _ s8 (vs.map some++σ) H8 (fun vy H9=>Ts H8 H9/\∃ y G9,RD X.K H9 y vy/\HR X.K H9 G9/\G9 Da=some (.lst ds)/\P (i+1) (ds++[y]) (aM G9 Da (.lst (ds++[y])))) I8 ⟨ys.map some++ρ,G8,_,sr7.mono t8,g8,q8',fun vy H9 y G9 t9 r9 g9 q9=>⟨t9,y,G9,r9,g9,q9⟩⟩) (fun uy s9 ⟨vy,H9,I9,ry,t9,y,G9,ryd,g9,hG9,q9⟩=>?_) fun _ _ z=>z.elim;obtain ⟨ws,hH9,rws⟩:=g9 Da _ hG9;have aCQ:ws.length < sizeLine:=by rw [← rws.length];omega
        refine wpAny_mono (a7Y (X:=iQ X xs scope h3.objs.size { s2 with heap:=h3,toks:=s2.toks } (upd H2 Da (.lst [])) fp pins) _ s9 (vs.map some++σ) H9 (.ref Da) [vy] (.ref Da) [uy] (fun _ H10=>H10=upd H9 Da (.lst (ws++[vy]))) I9 rfl (.cons ry .nil) ⟨Da,ws,vy,rfl,rfl,hH9,aCQ,rfl⟩) (fun _ s10 ⟨_,H10,I10,_,e10⟩=>?_) fun _ _ z=>z.elim;subst e10;obtain ⟨a1,a2⟩:=akV I10;have tt:Ts H9 (upd H9 Da (.lst (ws++[vy]))) := .turn hH9 (fun _ z=>nomatch z) (fun _ _ z=>nomatch z);exact ⟨src.items.length - (i+1),by omega,i+1,ds++[y],_,_,down I10,a1,a2,g9.turn (u := .lst (ds++[y])) tt ⟨_,aF,(rws.append (.cons ryd .nil)).mono tt⟩,q9,hlt,rfl,((ts.trans t8).trans t9).trans tt⟩
    . have ein:i=src.items.length:=by omega
      subst ein;refine wpAny_mono (T.done (iQ X xs scope h3.objs.size { s2 with heap:=h3,toks:=s2.toks } (upd H2 Da (.lst [])) fp pins) rfl rfl rfl (fun h=>h) (fun _ h=>h) _ [] s' (nn xs σ) H' (fun _ _=>False) J (fpX fr) st aCO) (fun r s5 ⟨hr,J5⟩=>?_) fun _ _ z=>z.elim;subst hr;obtain ⟨m5,hn5,_⟩:=id J5.loc;obtain ⟨G0,l0,q0⟩:=pend ds G' p;have I5:Inv X pins σ H' s5:=apY (tk:=s5.toks) I3 rfl hf3 J5 (iy.refl _ _);refine hRR Da _ s5 H' G0 I5 ⟨⟨m5,hn5⟩,J5.free,zm I3.lt,I3.sz,fun y d e z=>?_,fun p hp z=>?_⟩ (t1.trans ts) (g'.le l0) q0
      . obtain ⟨w,o,ho,_⟩:=I3.cell y d e;rw [z] at ho;exact absurd (cu ho) (mj _)
      . have:=(I3.pin p hp).1;rw [z] at this;exact absurd (cu this) (mj _)
  exact codeAny_compStart_list (loop _ J0 st1) (T.self X.A 0 _ _ _ st1 (loop _ J0 st1))
noncomputable def a0C (dv:D->Option (List D)) (ti:TI3) (tc:xK) (te:cF):cF:=fun ρ G R=>ti ρ G fun src G1=>src.items.length < sizeLine/\∀ p,G1 p=none->∃ P:Nat->List D->Gp->Prop,P 0 [] (aM G1 p (.lst [])) /\
  (∀ k ds G,k<=src.items.length->P k ds G->src.ok G/\G p=some (.lst ds)/\ds.length<=k) /\
  (∀ k d ds G,src.items[k]?=some d->P k ds G->∃ ys,dv d=some ys/\tc (ys.map some++ρ) G fun b G2=>if b=true then te (ys.map some++ρ) G2 fun y G3=>G3 p=some (.lst ds)/\P (k+1) (ds++[y]) (aM G3 p (.lst (ds++[y]))) else P (k+1) ds G2) /\
  ∀ ds G,P src.items.length ds G->∃ G0,Le G0 G/\R (.ref p) G0
noncomputable def adZ (d:D):Option (List D):=some [d]
noncomputable abbrev zE (ti:TI3) (tc:xK) (te:cF):cF:=a0C adZ ti tc te
noncomputable def aq2 (n:Nat) (d:D):Option (List D):=match d with
  | .tup ds=>if ds.length=n then some ds else none
  | _=>none
noncomputable abbrev afY (n:Nat) (ti:TI3) (tc:xK) (te:cF):cF:=a0C (aq2 n) ti tc te
theorem abM (d:D) (ds:List D) (h:adZ d=some ds):ds.length=[x].length:=by
  unfold adZ at h;cases h;rfl
theorem afZ (h:aq2 n d=some ds):d = .tup ds/\ds.length=n:=by
  unfold aq2 at h;split at h
  . split at h
    . rename_i e;cases h;exact ⟨rfl,e⟩
    . cases h
  . cases h
theorem ae0 (c:sU X xs scope) (hnd:X.N.Nodup):(xs++X.N).Nodup:=xu.mpr ⟨c.nd,hnd,fun a ha b hb e=>c.out a ha (e ▸ hb)⟩
theorem akW (c:sU X [x] scope) (hnd:X.N.Nodup) {σ:St}:akS (iQ X [x] scope C s H fp pins) (.Name x px) [x] adZ σ:=by
  intro vC s' H' v u d ds I r rd e;unfold adZ at e;cases e;have pgn:PG (iQ X [x] scope C s H fp pins) (.Name x px) (afE 0):=a91 (ae0 c hnd) rfl (.inl (lookup_relabel_local (c.var x (by simp)))) (.inr (lookup_relabel_local (c.var x (by simp))));refine wpAny_mono (pgn vC s' (nn [x] σ) H' v u (fun σ' H2=>σ'=[v].map some++σ/\H2=H') I r ⟨rfl,rfl⟩) (fun _ s2 ⟨σ2,H2,I2,e2,e3⟩=>?_) fun _ _ z=>z;subst e2;subst e3;exact ⟨[v],.cons rd .nil,I2⟩
theorem a9P (c:sU X xs scope) (hT:∀ C s H fp pins σ,akS (iQ X xs scope C s H fp pins) tgt xs dv σ) (hdv:∀ d ds,dv d=some ds->ds.length=xs.length) (hi:PI3 X tgt iter ti) (hc:∀ C s H fp pins,aiD (iQ X xs scope C s H fp pins) ifs tc) (he:∀ C s H fp pins,cI (iQ X xs scope C s H fp pins) elt te)
    (hs:∀ y,foldedSetIterable iter X.env y=pure y):cI X (.ListComp elt [⟨tgt,iter,ifs,0⟩] scope pos) (a0C dv ti tc te):=by
  intro pins s σ H Q I h _tk;obtain ⟨ρ,G,R,sr,g,q,kk⟩:=h;rw [eval_ListComp];refine wpAny_comprehension_free (use:=none) rfl hs (rG fun y hy hf=>I.ok.has y.1 (c.frees y hy hf)) c.kind c.locs ?_
  refine cR (hi pins s σ H (fun J H1=>Ts H H1/\∃ src G1,HR X.K H1 G1/\abI X.K H1 src J/\(src.items.length < sizeLine/\∀ p,G1 p=none->∃ P:Nat->List D->Gp->Prop,P 0 [] (aM G1 p (.lst [])) /\
      (∀ k ds G,k<=src.items.length->P k ds G->src.ok G/\G p=some (.lst ds)/\ds.length<=k) /\
      (∀ k d ds G,src.items[k]?=some d->P k ds G->∃ ys,dv d=some ys/\tc (ys.map some++ρ) G fun b G2=>if b=true then te (ys.map some++ρ) G2 fun y G3=>G3 p=some (.lst ds)/\P (k+1) (ds++[y]) (aM G3 p (.lst (ds++[y]))) else P (k+1) ds G2) /\
      ∀ ds G,P src.items.length ds G->∃ G0,Le G0 G/\R (.ref p) G0)) I ⟨ρ,G,_,sr,g,q,fun src J H' G' t1 g1 sj q1=>⟨t1,src,G',g1,sj,q1⟩⟩) fun v s1 h1=>cR h1 fun itv s2 hz=>?_
  obtain ⟨it,fp,tn,J,H2,e,I2,T,st2,f2,t1,src,G1,g1,sj,hlen,body⟩:=hz;subst e
  exact a88 (RR:=fun acc C=>compPost (model X.prog X.w) X.A X.xe none (EP X pins σ Q) acc C) c hT hdv hc he sr I2 T st2 f2 t1 g1 sj hlen body fun Da C s5 H' G0 I5 o ts g0 q0=>by
    obtain ⟨m,hn⟩:=o.ns;exact ⟨m,hn,fun h' hs'=>⟨.ref Da,H',o.turn I5 hs',rfl,kk _ H' _ G0 ts (.ref Da) g0 q0⟩⟩
theorem aq3 {py spos:Pos} (c:sU X xs scope) (hT:∀ C s H fp pins σ,akS (iQ X xs scope C s H fp pins) tgt xs dv σ) (hdv:∀ d ds,dv d=some ds->ds.length=xs.length) (hnd:X.N.Nodup) (hy:X.N[i]?=some y) (hl:Loc X.env.scope y) (hf:X.fn y=true) (hi:PI3 X tgt iter ti) (hc:∀ C s H fp pins,aiD (iQ X xs scope C s H fp pins) ifs tc) (he:∀ C s H fp pins,cI (iQ X xs scope C s H fp pins) elt te)
    (hs:∀ y,foldedSetIterable iter X.env y=pure y):PS3 X (.Assign [.Name y py] (.ListComp elt [⟨tgt,iter,ifs,0⟩] scope pos) spos) (bB i (a0C dv ti tc te)):=by
  have hsw:∃ b,swapsWith (.ListComp elt [⟨tgt,iter,ifs,0⟩] scope pos) (some (.Name y py)) spos.line X.env=pure b:=⟨_,rfl⟩;obtain ⟨b,hsw⟩:=hsw;cases b with
  | false=>exact at5 hnd hy hl (a9P c hT hdv hi hc he hs) hsw (.inl hf)
  | true =>
    intro pins s σ H F I h _tk;obtain ⟨ρ,G,E,sr,g,q,d⟩:=h;rw [exec_Assign_Name_used _ _ _ _ hsw];refine aj (wpAny_standAt (aj ?_));show wpAny _ X.A (do let _ ← comprehension (.ListComp elt [⟨tgt,iter,ifs,0⟩] scope pos) scope X.env _ (newList []) false (eval iter X.env) (some (assign (.Name y py) X.env))) _ _ s;refine aj (wpAny_mono (wpAny_comprehension_free (use:=some (assign (.Name y py) X.env)) (Q:=fun _ s'=>SP X pins F .next s') rfl hs (rG fun y hy hf=>I.ok.has y.1 (c.frees y hy hf)) c.kind c.locs ?_) (fun _ s' hq=>aq (aq hq)) fun _ _ e=>e)
    refine cR (hi pins s σ H (fun J H1=>Ts H H1/\∃ src G1,HR X.K H1 G1/\abI X.K H1 src J/\(src.items.length < sizeLine/\∀ p,G1 p=none->∃ P:Nat->List D->Gp->Prop,P 0 [] (aM G1 p (.lst [])) /\
        (∀ k ds G,k<=src.items.length->P k ds G->src.ok G/\G p=some (.lst ds)/\ds.length<=k) /\
        (∀ k d ds G,src.items[k]?=some d->P k ds G->∃ ys,dv d=some ys/\tc (ys.map some++ρ) G fun b G2=>if b=true then te (ys.map some++ρ) G2 fun y G3=>G3 p=some (.lst ds)/\P (k+1) (ds++[y]) (aM G3 p (.lst (ds++[y]))) else P (k+1) ds G2) /\
        ∀ ds G,P src.items.length ds G->∃ G0,Le G0 G/\E.nx (sH ρ i (.ref p)) G0)) I ⟨ρ,G,_,sr,g,q,fun src J H' G' t1 g1 sj q1=>⟨t1,src,G',g1,sj,q1⟩⟩) fun v s1 h1=>cR h1 fun itv s2 hz=>?_
    obtain ⟨it,fp,tn,J,H2,e,I2,T,st2,f2,t1,src,G1,g1,sj,hlen,body⟩:=hz;subst e;refine a88 (R:=fun z G0=>E.nx (sH ρ i z) G0) (RR:=fun acc C=>compPost (model X.prog X.w) X.A X.xe (some (assign (.Name y py) X.env)) (fun _ s'=>SP X pins F .next s') acc C) c hT hdv hc he sr I2 T st2 f2 t1 g1 sj hlen body fun Da C s5 H' G0 I5 o ts g0 q0=>?_;show wpAny _ X.A (assign (.Name y py) X.env (.ref Da)) _ _ s5;refine wpAny_assign_Name (a7S (v := .ref Da) I5 hnd hy hl rfl (fun s6 I6 ⟨a,hsb,ha⟩=>?_) (.inl hf));obtain ⟨m,hn⟩:=o.ns
    have hCa:C≠a:=by
      rcases ha with rfl | ha
      . exact o.loc
      . exact fun z=>o.cells y a ha z.symm
    have o6:aq1 X pins H' C s6.heap:=⟨⟨m,hn.sameBut hsb hCa⟩,o.free,o.loc,o.young,o.cells,o.pins⟩;refine ⟨m,hn.sameBut hsb hCa,fun h' hs'=>⟨_,H',o6.turn I6 hs',d.nx _ G0 _ H' ((sr.mono ts).set (.ref Da) i) g0 q0⟩⟩
end
end
variable {es:List Expr}{is:List Nat}{G:Gp}{body:List Stmt}{tb:bL}
section
noncomputable abbrev TG3:=D->aP->(aP->Prop)->Prop
noncomputable def upG (K:Fg) (t:TG3):TG:=fun v σ H Q=>∃ ρ d R,SR K H ρ σ/\RD K H d v/\t d ρ R/\∀ ρ' σ',SR K H ρ' σ'->R ρ'->Q σ' H
noncomputable abbrev PG3 (X:Cx) (tg:Expr) (t:TG3):Prop:=PG X tg (upG X.K t)
noncomputable def oA (i:Nat):TG3:=fun d ρ Q=>Q (sH ρ i d)
noncomputable def a2K:aP->List Nat->List D->aP
  | ρ,i :: is,d :: ds=>a2K (sH ρ i d) is ds
  | ρ,_,_=>ρ
noncomputable def a4Y (is:List Nat):TG3:=fun d ρ Q=>match d with
  | .tup ds=>ds.length=is.length/\Q (a2K ρ is ds)
  | _=>False
noncomputable def a89:St->List Nat->List V->St
  | σ,i :: is,v :: vs=>a89 (σ.set i (some v)) is vs
  | σ,_,_=>σ
theorem SR.sets {K:Fg} {H:Hp}:∀ {is:List Nat} {ds:List D} {vs:List V} {ρ:aP} {σ:St},bR K H ds vs->SR K H ρ σ->SR K H (a2K ρ is ds) (a89 σ is vs)
  | [],_,_,_,_,_,s=>s
  | _ :: _,_,_,_,_,.nil,s=>s
  | i :: is,_,_,_,_,.cons h r,s=>SR.sets (is:=is) r (s.set h i)
variable {p:Addr}
section
variable {X:Cx}
theorem PG.imp {t t':TG} (h:PG X e t) (k:∀ v σ H Q,t' v σ H Q->t v σ H Q):PG X e t':=fun pins s σ H v u Q I r q=>h pins s σ H v u Q I r (k _ _ _ _ q)
theorem ax5 {x:Str} (hN:X.N.Nodup) (hi:X.N[i]?=some x) (hx:Loc X.env.scope x) (hf:X.fn x=true∨X.env.scope.names.lookup x=some .local):PG3 X (.Name x pos) (oA i) :=
  PG.imp (a91 hN hi hx hf) fun v σ H Q h=>by
  obtain ⟨ρ,d,R,s,r,q,k⟩:=h;exact k _ _ (s.set r i) q
structure aq4 (X:Cx) (e:Expr) (i:Nat):Prop where
  ex:∃ x pos,e = .Name x pos/\X.N[i]?=some x/\Loc X.env.scope x/\(X.fn x=true∨X.env.scope.names.lookup x=some .local)
noncomputable def ax6:List Nat->TGs
  | []=>aAS
  | i :: is=>asN (afE i) (ax6 is)
theorem a9Q:∀ {is:List Nat} {vs:List V} {σ:St} {H:Hp} {Q:St->Hp->Prop},vs.length=is.length->Q (a89 σ is vs) H->ax6 is vs σ H Q
  | [],[],_,_,_,_,q=>⟨rfl,q⟩
  | [],_ :: _,_,_,_,h,_=>by simp at h
  | _ :: _,[],_,_,_,h,_=>by simp at h
  | i :: is,v :: vs,σ,H,Q,h,q=>⟨v,vs,rfl,a9Q (is:=is) (by simpa using h) q⟩
theorem a1X (hN:X.N.Nodup):∀ {es:List Expr} {is:List Nat},Two (aq4 X) es is->PGs X es (ax6 is)/\(assignEach es X.env).length=is.length/\(assignEach es X.env).findIdx? (·.1)=none
  | _,_,.nil=>⟨aoD,rfl,rfl⟩
  | _,_,.cons (a:=e) (b:=i) h r=>by
    obtain ⟨x,pos,rfl,h1,h2,h3⟩:=h.ex;obtain ⟨a1,a2,a3⟩:=a1X hN r;refine ⟨ajK (a91 hN h1 h2 h3) a1 rfl,?_,?_⟩
    . show (assignEach _ X.env).length+1=_;rw [a2];rfl
    . show ((false,assign (.Name x pos) X.env) :: assignEach _ X.env).findIdx? (·.1)=none;rw [List.findIdx?_cons];simp [a3]
theorem atA {k:Nat} (hN:X.N.Nodup) (hc:X.calm=true) (h:Two (aq4 X) es is):PG3 X (.Tuple es k pos) (a4Y is):=by
  obtain ⟨a1,a2,a3⟩:=a1X hN h;refine PG.imp (ajL hc a1 a2 a3) fun v σ H Q h=>?_;obtain ⟨ρ,d,R,s,r,q,k⟩:=h;cases r with
  | @tup a vs ds hq rv =>
    have q':ds.length=is.length/\R (a2K ρ is ds):=q;exact ⟨a,vs,rfl,hq,by rw [← rv.length];exact q'.1,a9Q (by rw [← rv.length];exact q'.1) (k _ _ (SR.sets rv s) q'.2)⟩
  | _=>exact False.elim q
theorem a8A:∀ (xs:List Str) (vs done:List V) (σ:St),vs.length=xs.length->a89 (done.map some++nn xs σ) (yh done.length xs.length) vs=(done++vs).map some++σ
  | [],[],done,σ,_=>by simp [a89,nn]
  | [],_ :: _,_,_,h=>by simp at h
  | _ :: _,[],_,_,h=>by simp at h
  | x :: xs,v :: vs,done,σ,h=>by
    have ih:=a8A xs vs (done++[v]) σ (by simpa using h)
    have e1:(done.map some++nn (x :: xs) σ).set done.length (some v)=(done++[v]).map some++nn xs σ:=by
      simp [nn,List.set_append]
    show a89 ((done.map some++nn (x :: xs) σ).set done.length (some v)) (yh (done.length+1) xs.length) vs=_;rw [e1];have e2:(done++[v]).length=done.length+1:=by simp
    rw [e2] at ih;rw [ih];simp
theorem ax7 {xs:List Str} {k:Nat} (c:sU X xs scope) (hnd:X.N.Nodup) (hc:X.calm=true) (hes:Two (fun e x=>∃ p,e=Expr.Name x p) es xs) {σ:St}:akS (iQ X xs scope C s H fp pins) (.Tuple es k pos) xs (aq2 xs.length) σ:=by
  intro vC s' H' v u d ds I r rd e;obtain ⟨rfl,hl⟩:=afZ e
  have nms:∀ (es':List Expr) (ys done:List Str),Two (fun e x=>∃ p,e=Expr.Name x p) es' ys->xs=done++ys->Two (aq4 (iQ X xs scope C s H fp pins)) es' (yh done.length ys.length):=by
    intro es' ys
    induction ys generalizing es' with
    | nil=>intro done t _;cases t;exact .nil
    | cons y ys ih =>
      intro done t e;cases t with
      | cons h t =>
        obtain ⟨p,rfl⟩:=h;have z:=ih _ (done++[y]) t (by simp [e]);have e2:(done++[y]).length=done.length+1:=by simp
        rw [e2] at z;refine .cons ⟨y,p,rfl,?_,.inl (lookup_relabel_local (c.var y (by simp [e]))),.inr (lookup_relabel_local (c.var y (by simp [e])))⟩ z;show (xs++X.N)[done.length]?=some y;rw [e];simp
  obtain ⟨a1,a2,a3⟩:=a1X (X:=iQ X xs scope C s H fp pins) (ae0 c hnd) (nms es xs [] hes rfl);cases rd with
  | @tup a vs _ hq rv =>
    have lv:vs.length=xs.length:=by rw [← rv.length];exact hl
    have pgt:=ajL (X:=iQ X xs scope C s H fp pins) (k:=k) (pos:=pos) (show (iQ X xs scope C s H fp pins).calm=true from hc) a1 a2 a3;refine wpAny_mono (pgt vC s' (nn xs σ) H' (.ref a) u (fun σ' H2=>σ'=vs.map some++σ/\H2=H') I r ⟨a,vs,rfl,hq,by simpa using lv,a9Q (by simpa using lv) ⟨?_,rfl⟩⟩) (fun _ s2 ⟨σ2,H2,I2,e2,e3⟩=>?_) fun _ _ z=>z
    . have:=a8A xs vs [] σ lv;simpa using this
    . subst e2;subst e3;exact ⟨vs,rv,I2⟩
noncomputable def akX (K:Fg) (src:Src) (J:It):Prop:=∀ H2 G2,HR K H2 G2->src.ok G2 ->
  (∀ i,i < src.items.length->J.go i H2)/\(∀ i v H',i < src.items.length->J.yld i H2 v H'->Same H2 H'/\∃ d,src.items[i]?=some d/\RD K H' d v)/\J.stop src.items.length H2
noncomputable def aHU (K:Fg) (t:TI3):TI:=fun σ H Q=>∃ ρ G R,SR K H ρ σ/\HR K H G/\t ρ G R/\∀ src J H' G',Ts H H'->HR K H' G'->akX K src J->R src G'->Q J H'
noncomputable abbrev PIS (X:Cx) (tg iter:Expr) (t:TI3):Prop:=PI X tg iter (aHU X.K t)
noncomputable def a9R (te:cF):TI3:=fun ρ G R=>te ρ G fun x G1=>match x with
  | .ref p=>(match bI G1 p with
    | some xs=>R (.lst p xs) G1
    | none=>False)
  | .str z=>R (.imm (signs z)) G1
  | .tup xs=>xs.all scD=true/\∀ a,(G1 a=none∨G1 a=some (.tpl xs))->R (.tpl a xs) (aM G1 a (.tpl xs))
  | _=>False
theorem aCS {K:Fg} {d':D} {v:V} (h:scD d=true) (r:RD K H d v) (r':RD K H d' v):d'=d:=by
  cases r with
  | non=>cases r';rfl
  | bl b=>cases r';rfl
  | int i=>cases r';rfl
  | str x=>cases r';rfl
  | _=>exact Bool.noConfusion (show false=true from h)
theorem akY {K:Fg} {H:Hp}:∀ {ds ds':List D} {vs:List V},ds.all scD=true->bR K H ds vs->bR K H ds' vs->ds'=ds
  | _,_,_,_,.nil,.nil=>rfl
  | d :: ds,d' :: ds',_,h,.cons r rr,.cons r' rr'=>by
    rw [mq,ak] at h;rw [aCS h.1 r r',akY h.2 rr rr']
theorem akZ {σ:St} {xs:List V} {o:GO} (I:Inv X pins σ H s) (g:HR X.K H G) (hq:uL X.K H a xs) (e:G a=some o):∃ ds,o = .tpl ds/\bR X.K H ds xs:=by
  have no:∀ u,H a=some u->(∀ ys,u ≠ .tup ys)->(∀ ob ys,u ≠ .nQ ob (.tup ys))->False:=fun u hu h1 h2=>by
    rcases hq with (q | ⟨ob,q⟩) | ⟨ob,_,_,q,_⟩
    . rw [hu] at q;exact h1 _ (gw.inj q)
    . rw [hu] at q;exact h2 _ _ (gw.inj q)
    . have:=uP I a ob q;rw [hu] at this;cases this
  have z:=g a o e;cases o with
  | lst ds=>obtain ⟨_,q,_⟩:=z;exact (no _ q (fun _ w=>nomatch w) (fun _ _ w=>nomatch w)).elim
  | rol ds =>
    obtain ⟨_,q,_⟩:=z;obtain ⟨_,_,⟨o1,n1,e1,c1,_⟩,_⟩:=I.list q;obtain ⟨_,_,⟨o2,e2,c2,_⟩,_⟩:=I.tuple hq;rw [e1] at e2;cases e2;rw [c1] at c2;exact absurd c2 (by decide)
  | lX t kvs=>rcases z with ⟨_,_,q,_⟩ | ⟨_,_,q,_⟩ <;> exact (no _ q (fun _ w=>nomatch w) (fun _ _ w=>nomatch w)).elim
  | ins C fs=>obtain ⟨_,_,q,_⟩:=z;exact (no _ q (fun _ w=>nomatch w) (fun _ _ w=>nomatch w)).elim
  | exn C=>obtain ⟨_,_,q,_⟩:=z;exact (no _ q (fun _ w=>nomatch w) (fun _ _ w=>nomatch w)).elim
  | rdc ob t kvs=>rcases z with ⟨_,_,q,_⟩ | ⟨_,_,q,_⟩ <;> exact (no _ q (fun _ w=>nomatch w) (fun _ _ w=>nomatch w)).elim
  | tpl ds=>obtain ⟨ys,q,r⟩:=z;exact ⟨ds,rfl,by rw [← I.a1L q hq];exact r⟩
  | kst ks=>obtain ⟨_,_,_,q,_⟩:=z;exact (no _ q (fun _ w=>nomatch w) (fun _ _ w=>nomatch w)).elim
  | nst ks=>obtain ⟨_,_,_,q,_⟩:=z;exact (no _ q (fun _ w=>nomatch w) (fun _ _ w=>nomatch w)).elim
  | tab q p=>obtain ⟨_,q,_⟩:=z;exact (no _ q (fun _ w=>nomatch w) (fun _ _ w=>nomatch w)).elim
  | clo c d=>obtain ⟨_,_,_,_,_,_,_,_,q,_⟩:=z;exact (no _ q (fun _ w=>nomatch w) (fun _ _ w=>nomatch w)).elim
theorem aq5 {σ:St} {xs:List V} (I:Inv X pins σ H s) (g:HR X.K H G) (hq:uL X.K H a xs) (rv:bR X.K H ds xs) (sc:ds.all scD=true) :
    (G a=none∨G a=some (.tpl ds))/\HR X.K H (aM G a (.tpl ds)):=by
  refine ⟨?_,fun b o e=>?_⟩
  . cases e:G a with
    | none=>exact .inl rfl
    | some o=>obtain ⟨ds',rfl,r⟩:=akZ I g hq e;exact .inr (by rw [akY sc rv r])
  . by_cases hb:b=a
    . subst hb;rw [aD] at e;cases e;exact ⟨xs,hq,rv⟩
    . rw [aX hb] at e;exact g b o e
theorem al0 {K:Fg}:akX K (.tpl p xs) (Itt K p):=fun H2 G2 g ok=>by
  obtain ⟨vs,hq,rv⟩:=g p _ ok;exact abK hq rv H2 G2 (.refl _) g trivial
theorem aiF {K:Fg}:akX K (.lst p xs) (Itl K p):=fun H2 G2 g ok=>a87 (H1:=H2) H2 G2 (.refl _) g ok
theorem abN {K:Fg}:akX K (.imm (signs z)) (Its z):=fun H2 G2 g ok=>a4W (H1:=H2) H2 G2 (.refl _) g ok
theorem al1 {K:Fg}:akX K (.imm ((gk n).map fun (i:Nat) => .int (lo+(i:Int)))) (Itr lo n):=fun H2 G2 g ok=>abL (H1:=H2) H2 G2 (.refl _) g ok
theorem ax8 (hl:cI X l te):PIS X tg l (a9R te):=by
  intro pins s σ H R I h _tk;obtain ⟨ρ,G,R3,sr,g,q,k⟩:=h
  refine cR (hl pins s σ H (fun v H1=>Ts H H1/\∃ x G1,RD X.K H1 x v/\HR X.K H1 G1/\(match x with
    | .ref p=>(match bI G1 p with
      | some xs=>R3 (.lst p xs) G1
      | none=>False)
    | .str z=>R3 (.imm (signs z)) G1
    | .tup xs=>xs.all scD=true/\∀ a,(G1 a=none∨G1 a=some (.tpl xs))->R3 (.tpl a xs) (aM G1 a (.tpl xs))
    | _=>False)) I ⟨ρ,G,_,sr,g,q,fun v H1 x G1 t1 r g1 q1=>⟨t1,x,G1,r,g1,q1⟩⟩) fun v s1 ⟨x,H1,I1,r1,t1,d,G1,rd,g1,q1⟩=>?_
  cases rd with
  | ref a =>
    have q1':(match bI G1 a with
      | some xs=>R3 (.lst a xs) G1
      | none=>False):=q1
    split at q1'
    . rename_i xs e;cases r1;obtain ⟨vs,hq,rv⟩:=cJ g1 e;obtain ⟨its,rv',p,hz⟩:=I1.list hq;refine wpAny_pyIter_list p.isList ?_;refine ⟨s1.heap.objs.size,[s1.heap.objs.size],_,_,H1,rfl,I1.kept (t':=s1.toks) fun b o e=>ao _ e,a7T a _,⟨_,dj _ rfl,rfl,rfl⟩,fun b hb=>?_,k _ _ H1 G1 t1 g1 aiF q1'⟩;have e:b=s1.heap.objs.size:=by simpa using hb
      subst e;exact I1.a3Y (bw _) (I1.hok.fresh (bw _))
    . exact q1'.elim
  | str z =>
    obtain ⟨t,rfl⟩:=r1;cases ha:z.cps.all (· < 128)
    . refine wpAny_pyIter_wide ha ?_;refine ⟨s1.heap.objs.size,[s1.heap.objs.size],_,_,H1,rfl,I1.kept (t':=s1.toks) fun b o e=>ao _ e,a86 _ z t,?_,fun b hb=>?_,k _ _ H1 G1 t1 g1 abN q1⟩
      . rw [Nat.zero_min];exact ⟨_,dj _ rfl,rfl,rfl⟩
      . have e:b=s1.heap.objs.size:=by simpa using hb
        subst e;exact I1.a3Y (bw _) (I1.hok.fresh (bw _))
    . refine wpAny_pyIter_ascii ha ?_;refine ⟨s1.heap.objs.size,[s1.heap.objs.size],_,_,H1,rfl,I1.kept (t':=s1.toks) fun b o e=>ao _ e,a85 _ z t,?_,fun b hb=>?_,k _ _ H1 G1 t1 g1 abN q1⟩
      . rw [Nat.zero_min];exact ⟨_,dj _ rfl,rfl,rfl⟩
      . have e:b=s1.heap.objs.size:=by simpa using hb
        subst e;exact I1.a3Y (bw _) (I1.hok.fresh (bw _))
  | @tup a vs xs hq rv =>
    cases r1;obtain ⟨its,rv',p,hz⟩:=I1.tuple hq;obtain ⟨sc,q1⟩:=q1;obtain ⟨hG,g2⟩:=aq5 I1 g1 hq rv sc;refine wpAny_pyIter_tuple (show s1.heap.IsTuple a its.toArray from p) ?_;refine ⟨s1.heap.objs.size,[s1.heap.objs.size],_,_,H1,rfl,I1.kept (t':=s1.toks) fun b o e=>ao _ e,a3Z a _,⟨_,dj _ rfl,rfl,rfl⟩,fun b hb=>?_,k _ _ H1 _ t1 g2 al0 (q1 a hG)⟩;have e:b=s1.heap.objs.size:=by simpa using hb
    subst e;exact I1.a3Y (bw _) (I1.hok.fresh (bw _))
  | _=>exact q1.elim
theorem aq6 {a:Expr} {p:Pos} (hg:Gl X "range") (hm:X.mg "range" = none) (ha:PA3 X [a] ta) (hs:starEach [a] X.env=[(false,eval a X.env)]):PIS X tg (.Call (.Name "range" p) [a] [] pos) (sS ta) :=
  PI.imp (a7U hg hm ha hs) fun σ H Q h=>by
  obtain ⟨ρ,G,R,s,g,q,k⟩:=h;refine ⟨ρ,G,_,s,g,q,fun vs H1 ds G1 t1 r g1 h1=>?_⟩;cases r with
  | nil=>exact h1.elim
  | cons r rr =>
    cases rr with
    | cons _ _=>cases r <;> exact False.elim h1
    | nil =>
      cases r with
      | int j =>
        obtain ⟨l1,l2,h1⟩:=h1;refine ⟨j,rfl,l1,l2,k _ _ H1 G1 t1 g1 ?_ h1⟩;unfold yJ;rw [show (j - 0).toNat=j.toNat by omega];exact al1
      | _=>exact False.elim h1
noncomputable def lY (ti:TI3) (tg:TG3) (tb:bL):bL:=fun F ρ G=>ti ρ G fun src G1=>∃ P:Nat->aP->Gp->Prop,P 0 ρ G1/\(∀ k ρ G,k<=src.items.length->P k ρ G->src.ok G) /\
  (∀ k d ρ G,src.items[k]?=some d->P k ρ G->tg d ρ fun ρ2=>tb { F with nx:=P (k+1),ct:=P (k+1),bk:=F.nx } ρ2 G)/\∀ ρ G,P src.items.length ρ G->F.nx ρ G
theorem ax9 {tgt iter:Expr} {ti:TI3} {tg:TG3} (hp:PassesOwn (model X.prog X.w) X.A X.env X.xe) (hi:PIS X tgt iter ti) (hg:PG3 X tgt tg) (hb:yI X body tb)
    (hs:∀ x,foldedSetIterable iter X.env x=pure x):PS3 X (.For tgt iter body [] pos) (lY ti tg tb):=PS.imp (av1 hp hi hg hb hs) fun F σ H h=>by
  obtain ⟨ρ,G,E,s,g,q,d⟩:=h
  refine ⟨ρ,G,fun src G1=>∃ P:Nat->aP->Gp->Prop,P 0 ρ G1/\(∀ k ρ G,k<=src.items.length->P k ρ G->src.ok G) /\
    (∀ k d ρ G,src.items[k]?=some d->P k ρ G->tg d ρ fun ρ2=>tb { E with nx:=P (k+1),ct:=P (k+1),bk:=E.nx } ρ2 G)/\∀ ρ G,P src.items.length ρ G->E.nx ρ G,s,g,q,fun src J H1 G1 t1 g1 sj ⟨P,p0,pok,pst,pend⟩=>?_⟩
  refine akH (K:=X.K) (n:=src.items.length) (fun k σ2 H2=>∃ ρ' G',SR X.K H2 ρ' σ2/\HR X.K H2 G'/\P k ρ' G') ⟨ρ,G1,s.mono t1,g1,p0⟩ (fun σ2 H2 ⟨ρ',G',s2,g2,p⟩=>?_) (fun k σ2 H2 hk ⟨ρ',G',s2,g2,p⟩=>?_) (fun k y σ2 H2 H3 hk ⟨ρ',G',s2,g2,p⟩ hy=>?_)
    (fun σ2 H2 ⟨ρ',G',s2,g2,p⟩=>d.nx ρ' G' σ2 H2 s2 g2 (pend ρ' G' p))
  . exact (sj H2 G' g2 (pok _ ρ' G' (bw _) p)).2.2
  . exact (sj H2 G' g2 (pok _ ρ' G' (nj hk) p)).1 k hk
  . obtain ⟨sm,dk,e1,e2⟩:=(sj H2 G' g2 (pok _ ρ' G' (nj hk) p)).2.1 k y H3 hk hy;refine ⟨ρ',dk,_,s2.mono (.same sm),e2,pst k dk ρ' G' e1 p,fun ρ2 σ3 s3 q3=>?_⟩;exact ⟨ρ2,G',_,s3,g2.same sm,q3,⟨fun ρ4 G4 σ4 H4 s4 g4 q4=>⟨ρ4,G4,s4,g4,q4⟩,d.rt,d.nx,fun ρ4 G4 σ4 H4 s4 g4 q4=>⟨ρ4,G4,s4,g4,q4⟩⟩⟩
end
end
section
noncomputable def aHV:D->Bool
  | .bl _=>true
  | _=>false
noncomputable def aHW:D->Bool
  | .bl b=>b
  | _=>false
noncomputable def aJM:List D->Gp->fM->Prop:=fun xs G R=>match xs with
  | [.ref q]=>(match bI G q with
    | some ds=>ds.all aHV=true/\R (.bl (ds.all aHW)) G
    | none=>False)
  | _=>False
section
variable {X:Cx}
noncomputable def on2 (xs:List D) (f:Int->Int->Prop):Prop:=match xs with
  | [.int i,.int j]=>f i j
  | _=>False
noncomputable def atB:List D->Gp->fM->Prop:=fun xs G R=>on2 xs fun i j=>R (.int (if j < i then j else i)) G
noncomputable def atD:List D->Gp->fM->Prop:=fun xs G R=>on2 xs fun i j=>R (.int (if i < j then j else i)) G
theorem abO {K:Fg} (r:bR K H xs vs) {f:Int->Int->Prop} (h:on2 xs f):∃ i j,xs=[.int i,.int j]/\vs=[.int i,.int j]/\f i j:=by
  unfold on2 at h;split at h
  . rename_i i j;cases r with
    | cons r1 r =>
    cases r with
    | cons r2 r =>
    cases r;cases r1;cases r2;exact ⟨i,j,rfl,rfl,h⟩
  . exact h.elim
theorem aCT (hc:X.calm=true):cV X (.builtin "min") atB:=cV.of (ahW hc) fun H xs vs G R Q rx g q k=>by
  obtain ⟨i,j,rfl,rfl,q'⟩:=abO (f:=fun i j=>R (.int (if j < i then j else i)) G) rx q;exact ⟨i,j,rfl,fun _=>k _ H _ G (.refl H) (.int _) g q'⟩
theorem aCU (hc:X.calm=true):cV X (.builtin "max") atD:=cV.of (ahV hc) fun H xs vs G R Q rx g q k=>by
  obtain ⟨i,j,rfl,rfl,q'⟩:=abO (f:=fun i j=>R (.int (if i < j then j else i)) G) rx q;exact ⟨i,j,rfl,fun _=>k _ H _ G (.refl H) (.int _) g q'⟩
noncomputable def pX:List D->Option (List Str)
  | []=>some []
  | .str z :: r=>(pX r).map (z :: ·)
  | _=>none
noncomputable def a4Z:RM3:=fun x xs G R=>match x,xs with
  | .str z,[.ref q]=>(match (bI G q).bind pX with
    | some ys=>(ys.map (·.length)).sum+ys.length * z.length<=16777216/\R (.str (Txt.join z ys)) G
    | none=>False)
  | _,_=>False
theorem a0D {K:Fg} {H:Hp}:∀ {ds:List D} {vs:List V} {us:List Value} {ys:List Str},bR K H ds vs->Vals vs us->pX ds=some ys->StrsAre us ys
  | [],_,_,_,.nil,.nil,e=>by cases e;exact .nil
  | .str z :: r,_,_,ys,.cons (.str _) rr,.cons hu hr,e=>by
    unfold pX at e;cases q:pX r with
    | none=>rw [q] at e;cases e
    | some zs =>
      rw [q] at e;cases e;obtain ⟨t,rfl⟩:=hu;exact .cons z t (a0D rr hr q)
  | .non :: _,_,_,_,_,_,e=>by cases e
  | .bl _ :: _,_,_,_,_,_,e=>by cases e
  | .int _ :: _,_,_,_,_,_,e=>by cases e
  | .tup _ :: _,_,_,_,_,_,e=>by cases e
  | .ref _ :: _,_,_,_,_,_,e=>by cases e
  | .ty _ :: _,_,_,_,_,_,e=>by cases e
theorem al2:vW X "str.join" a4Z:=fun pins s σ H x xs vx vs u us G R Q I rx rs ru rv g q k=>by
  cases rx with
  | str z =>
    cases rs with
    | nil=>exact False.elim q
    | cons r rr =>
      cases rr with
      | cons _ _=>cases r <;> exact False.elim q
      | nil =>
        cases r with
        | ref a =>
          obtain ⟨t,rfl⟩:=ru;obtain ⟨u2,rfl,ru2⟩:=vals1 rv;cases ru2
          have q':(match (bI G a).bind pX with
            | some ys=>(ys.map (·.length)).sum+ys.length * z.length<=16777216/\R (.str (Txt.join z ys)) G
            | none=>False):=q
          split at q'
          . rename_i ys e1;obtain ⟨ds,e2,e3⟩:=Option.bind_eq_some_iff.mp e1;obtain ⟨ws,hq,r1⟩:=cJ g e2;obtain ⟨its,rv',p,hz⟩:=I.list hq;exact join_list p.isList (a0D r1 rv' e3) q'.1 fun t' kk=>⟨.str _,H,I.tok kk,⟨t',rfl⟩,k _ H _ G (.refl H) (.str _) g q'.2⟩
          . exact q'.elim
        | _=>exact False.elim q
  | _ =>
    cases rs with
    | nil=>exact False.elim q
    | cons r rr=>cases rr <;> cases r <;> exact False.elim q
end
end
variable {pos':Pos}{us:List Value}{zs:List (Int×Tok)}{ns:List Int}
section
noncomputable def onN (x:D) (f:Int->Prop):Prop:=match x with
  | .int k=>f k
  | _=>False
section
variable {X:Cx} {pos:Pos}
noncomputable def a9S (is:List Nat) (te:cF):bL:=fun F ρ G=>te ρ G fun d G1=>a4Y is d ρ fun ρ2=>F.nx ρ2 G1
theorem axB {k:Nat} {tp:Pos} (hg:PG3 X (.Tuple es k tp) (a4Y is)) (he:cI X e te) (hs:swapsWithSole [.Tuple es k tp] e pos.line X.env=pure false) (hw:swappedStores [.Tuple es k tp] e X.env=pure none)
    (h1:(assignEach [.Tuple es k tp] X.env).map (·.2)=[assign (.Tuple es k tp) X.env]):PS3 X (.Assign [.Tuple es k tp] e pos) (a9S is te):=PS.imp (auX he hg hs hw h1) fun F σ H h=>by
  obtain ⟨ρ,G,E,s,g,q,d⟩:=h;exact ⟨ρ,G,_,s,g,q,fun v H' x G' t1 r g1 h=>⟨ρ,x,_,s.mono t1,r,h,fun ρ' σ' s' q'=>d.nx ρ' G' σ' H' s' g1 q'⟩⟩
noncomputable def ag0 (i:Nat) (f:Int->Int->Int) (te:cF):bL:=fun F ρ G=>aB i ρ G fun x G0=>onN x fun a=>te ρ G0 fun y G1=>onN y fun b=>F.nx (sH ρ i (.int (f a b))) G1
theorem atE {x:Str} {op:Operator} {f:Int->Int->Int} (hN:X.N.Nodup) (hi:X.N[i]?=some x) (hx:Loc X.env.scope x) (ho:pN X (inplaceOp op) (rI0 fun i j => .int (f i j))) (he:cI X e te) (hf:X.fn x=true∨X.env.scope.names.lookup x=some .local) :
    PS3 X (.AugAssign (.Name x pos') op e pos) (ag0 i f te):=PS.imp (auZ hN hi hx he (ti:=rI0 fun i j => .int (f i j)) (fun pins s σ H x y v u Q I rx ry q=>ho pins s σ H x y v u Q I rx ry q) hf) fun F σ H h=>by
  obtain ⟨ρ,G,E,s,g,q,d⟩:=h
  have q':(match at3 ρ i with
    | some x=>onN x fun a=>te ρ G fun y G1=>onN y fun b=>E.nx (sH ρ i (.int (f a b))) G1
    | none=>False):=q
  split at q'
  . rename_i x0 e0;obtain ⟨v,e1,rv⟩:=s.get e0;cases rv with
    | int a =>
      refine ⟨.int a,e1,ρ,G,_,s,g,q',fun v H' y G' t1 r g1 h=>?_⟩;cases r with
      | int b=>exact ⟨a,b,rfl,rfl,d.nx _ G' _ H' ((s.mono t1).set (.int _) i) g1 h⟩
      | _=>exact False.elim h
    | _=>exact False.elim q'
  . exact q'.elim
noncomputable def a3I (c:xK) (tb:bL):bL:=fun F ρ G=>∃ W:Nat->aP->Gp->Prop,(∃ m,W m ρ G)/\∀ m ρ G,W m ρ G->c ρ G fun b G1=>if b=true then tb { F with nx:=fun ρ' G'=>∃ m',m' < m/\W m' ρ' G',ct:=fun ρ' G'=>∃ m',m' < m/\W m' ρ' G',bk:=F.nx } ρ G1 else F.nx ρ G1
theorem aq7 (hp:PassesOwn (model X.prog X.w) X.A X.env X.xe) (hc:PT3 X c tc) (hb:yI X body tb):PS3 X (.While c body [] pos) (a3I tc tb):=PS.imp (ajM hp hc hb) fun F σ H h=>by
  obtain ⟨ρ,G,E,s,g,⟨W,⟨m0,w0⟩,turn⟩,d⟩:=h;refine ⟨fun m σ H=>∃ ρ G,SR X.K H ρ σ/\HR X.K H G/\W m ρ G,⟨m0,ρ,G,s,g,w0⟩,fun m σ1 H1 ⟨ρ1,G1,s1,g1,w1⟩=>⟨ρ1,G1,_,s1,g1,turn m ρ1 G1 w1,fun b H2 G2 t2 g2 q2=>?_⟩⟩;cases b with
  | true =>
    rw [if_pos rfl];rw [if_pos rfl] at q2;refine ⟨fun σ' H'=>∃ ρ' G',SR X.K H' ρ' σ'/\HR X.K H' G'/\∃ m',m' < m/\W m' ρ' G',fun σ' H' ⟨ρ',G',s',g',m',hm,w'⟩=>⟨m',hm,ρ',G',s',g',w'⟩,ρ1,G2,_,s1.mono t2,g2,q2,?_⟩;exact ⟨fun ρ' G' σ' H' s' g' q'=>⟨ρ',G',s',g',q'⟩,d.rt,d.nx,fun ρ' G' σ' H' s' g' q'=>⟨ρ',G',s',g',q'⟩⟩
  | false=>exact d.nx _ _ _ _ (s1.mono t2) g2 (by simpa using q2)
end
theorem ints_of {K:Fg} {H:Hp}:∀ {ns:List Int} {vs:List V} {us:List Value},bR K H (ns.map D.int) vs->Vals vs us->∃ ys:List (Int×Tok),us=ys.map (fun p=>Value.int p.1 p.2)/\ys.map (·.1)=ns
  | [],_,_,r,v=>by cases r;cases v;exact ⟨[],rfl,rfl⟩
  | n :: ns,_,_,r,v=>by
    cases r with
    | cons h r =>
      cases h with
      | int i =>
        cases v with
        | cons hu v =>
          obtain ⟨t,rfl⟩:=hu;obtain ⟨ys,e1,e2⟩:=ints_of r v;exact ⟨(n,t) :: ys,by rw [e1];rfl,by rw [iu,e2]⟩
noncomputable def aq8 (xs:List D) (G:Gp) (P:List D->Prop) (O:Prop):Prop:=match xs with
  | [.ref q]=>(match bI G q with
    | some ds=>P ds
    | none=>False)
  | _=>O
noncomputable def ag1:List D->Gp->fM->Prop:=fun xs G R=>aq8 xs G (fun ds=>∃ ns:List Int,ds=ns.map D.int/\R (.int ns.sum) G) False
section
variable {X:Cx}
theorem axC {P:List D->Prop} {O:Prop} {σ:St} (I:Inv X pins σ H s) (rx:bR X.K H xs vs) (rv:Vals vs us) (g:HR X.K H G)
    (h:aq8 xs G P O):(∃ a ds ys its,us=[.ref a]/\bR X.K H ds ys/\Vals ys its/\s.heap.IsList a its.toArray/\P ds)∨O:=by
  cases rx with
  | nil=>exact .inr h
  | cons r1 rr =>
    cases rr with
    | cons _ _=>cases r1 <;> exact .inr h
    | nil =>
      cases r1 with
      | ref a =>
        obtain ⟨u,rfl,ru⟩:=vals1 rv;cases ru
        have q':(match bI G a with
          | some ds=>P ds
          | none=>False):=h
        split at q'
        . rename_i ds e1;obtain ⟨ys,hq,r1⟩:=cJ g e1;obtain ⟨its,rv',p,hz⟩:=I.list hq;exact .inl ⟨a,ds,ys,its,rfl,r1,rv',p.isList,q'⟩
        . exact q'.elim
      | _=>exact .inr h
theorem int_list (p:s.heap.IsList a (zs.map fun p=>Value.int p.1 p.2).toArray):s.heap.IsList a (intItems zs.toArray):=by
  have:intItems zs.toArray=(zs.map fun p=>Value.int p.1 p.2).toArray:=by simp [intItems]
  rw [this];exact p
theorem aCV (hc:X.calm=true):cV X (.builtin "sum") ag1:=by
  intro pins s σ H xs vs us G R Q I rx rv g q k;rcases axC I rx rv g q with ⟨a,ds,ys,its,rfl,r1,rv',p,ns,rfl,q'⟩ | z
  . obtain ⟨zs,rfl,e2⟩:=ints_of r1 rv';refine sum_intListG (I.ok.hd hc) (int_list p) fun h' tk t' kk=>?_
    have e3:preSum (numAt zs.toArray) zs.toArray.size=ns.sum:=by
      rw [preSum_eq,yj (by simp)];rw [← e2]
    rw [e3];exact ⟨.int _,H,I.kept kk,⟨t',rfl⟩,k _ H _ G (.refl H) (.int _) g q'⟩
  . exact z.elim
noncomputable def a9T:List D->Gp->fM->Prop:=fun xs G R=>aq8 xs G (fun ds=>∃ ns:List Int,ds=ns.map D.int/\ns≠[]/\∀ M,M∈ns->(∀ a∈ns,a<=M)->R (.int M) G) (atD xs G R)
noncomputable def vZ:List D->Gp->fM->Prop:=fun xs G R=>aq8 xs G (fun ds=>∃ ns:List Int,ds=ns.map D.int/\ns≠[]/\∀ M,M∈ns->(∀ a∈ns,M<=a)->R (.int M) G) (atB xs G R)
theorem al3 (e2:zs.map (·.1)=ns) (h:j < zs.toArray.size):numAt zs.toArray j∈ns:=by
  rw [numAt_eq,← e2];exact getD_mem (by simpa using h)
theorem al4 (e2:zs.map (·.1)=ns) {a:Int} (h:a∈ns):∃ j,j < zs.toArray.size/\numAt zs.toArray j=a:=by
  rw [← e2] at h;obtain ⟨j,hj,rfl⟩:=mem_getD h;exact ⟨j,by simpa using hj,by rw [numAt_eq]⟩
theorem axD (hc:X.calm=true):cV X (.builtin "max") a9T:=by
  intro pins s σ H xs vs us G R Q I rx rv g q k;rcases axC I rx rv g q with ⟨a,ds,ys,its,rfl,r1,rv',p,ns,rfl,hne,q'⟩ | z
  . obtain ⟨zs,rfl,e2⟩:=ints_of r1 rv'
    have hsz:0 < zs.toArray.size:=by
      cases zs with
      | nil=>exact absurd e2.symm hne
      | cons _ _=>simp
    refine max_intList (I.ok.hd hc) (int_list p) hsz fun v h' tk hv kk=>?_;obtain ⟨t,rfl⟩:=intItems_at hv;obtain ⟨h1,h2⟩:=argBest_gt (numAt zs.toArray) (zs.toArray.size - 1);refine ⟨.int _,H,I.kept kk,⟨t,rfl⟩,k _ H _ G (.refl H) (.int _) g (q' _ (al3 e2 (by omega)) fun a ha=>?_)⟩;obtain ⟨j,hj,rfl⟩:=al4 e2 ha;exact h2 j (by omega)
  . exact aCU hc pins s σ H _ vs us G R Q I rx rv g z k
theorem axE (hc:X.calm=true):cV X (.builtin "min") vZ:=by
  intro pins s σ H xs vs us G R Q I rx rv g q k;rcases axC I rx rv g q with ⟨a,ds,ys,its,rfl,r1,rv',p,ns,rfl,hne,q'⟩ | z
  . obtain ⟨zs,rfl,e2⟩:=ints_of r1 rv'
    have hsz:0 < zs.toArray.size:=by
      cases zs with
      | nil=>exact absurd e2.symm hne
      | cons _ _=>simp
    refine min_intList (I.ok.hd hc) (int_list p) hsz fun v h' tk hv kk=>?_;obtain ⟨t,rfl⟩:=intItems_at hv;obtain ⟨h1,h2⟩:=argBest_lt (numAt zs.toArray) (zs.toArray.size - 1);refine ⟨.int _,H,I.kept kk,⟨t,rfl⟩,k _ H _ G (.refl H) (.int _) g (q' _ (al3 e2 (by omega)) fun a ha=>?_)⟩;obtain ⟨j,hj,rfl⟩:=al4 e2 ha;exact h2 j (by omega)
  . exact aCT hc pins s σ H _ vs us G R Q I rx rv g z k
end
end
variable {vx:V}
section
noncomputable def ok2 (G:Gp) (x y:D):Bool:=match x,y with
  | .ref p,.ref q=>(match bI G p,bI G q with
    | some xs,some ys=>xs.all (aO 17)&&ys.all (aO 17)
    | _,_=>false)
  | x,y=>aO 18 x&&aO 18 y
noncomputable def eq2 (G:Gp) (x y:D):Bool:=match x,y with
  | .ref p,.ref q=>(match bI G p,bI G q with
    | some xs,some ys=>jJ xs ys
    | _,_=>false)
  | x,y=>eqP x y
noncomputable def axF (G:Gp):List D->List D->Bool
  | x :: xs,y :: ys=>ok2 G x y&&axF G xs ys
  | _,_=>true
noncomputable def axG (G:Gp):List D->List D->Bool
  | [],[]=>true
  | x :: xs,y :: ys=>eq2 G x y&&axG G xs ys
  | _,_=>false
section
variable {X:Cx}
noncomputable def aCW (G:Gp) (x y:D) (k:Bool->Prop):Prop:=match x,y with
  | .tup xs,.tup ys=>axF G xs ys=true/\k (axG G xs ys)
  | .ref a,.ref b=>(match bI G a,bI G b with
    | some xs,some ys=>axF G xs ys=true/\k (axG G xs ys)
    | _,_=>False)
  | _,_=>False
noncomputable def aCX:R3:=fun x y G R=>aCW G x y fun b=>R (.bl b) G
noncomputable def aCY:R3:=fun x y G R=>aCW G x y fun b=>R (.bl (!b)) G
noncomputable def a8B (x:D) (G:Gp) (f:Addr->List D->Prop):Prop:=match x with
  | .ref p=>(match G p with
    | some (.lst ds)=>f p ds
    | _=>False)
  | _=>False
theorem abP {K:Fg} {x:D} {f:Addr->List D->Prop} (rx:RD K H x vx) (g:HR K H G) (h:a8B x G f):∃ p ds xs,x = .ref p/\vx = .ref p/\G p=some (.lst ds)/\H p=some (.lst xs)/\bR K H ds xs/\f p ds:=by
  unfold a8B at h;split at h
  . rename_i p;split at h
    . rename_i ds e;cases rx;obtain ⟨xs,e1,r⟩:=g p _ e;exact ⟨p,ds,xs,rfl,rfl,e,e1,r,h⟩
    . exact h.elim
  . exact h.elim
end
end
section
section
variable {X:Cx} {C:Addr} {bmB bmN:List Value} {B Bn newId nid initId inN:String} {x:Str} {np cpos:Pos} {e:Expr} {es:List Expr} {t:pL}
noncomputable def al5 (C:Addr) (t:pL):cF:=fun ρ G R=>t ρ G fun ds G1=>ds.length<=sizeLine/\∀ x,G1 x=none->R (.ref x) (aM G1 x (.exn C))
theorem al6 {σ:St} {x:Addr} (I:Inv X pins σ H s) (hm:a07 s.heap h' x (.ref C) us) :
    ∃ o vs,H x=none/\Inv X pins σ (upd H x (.nQ o (.ext (yM C x)))) { s with heap:=h' }/\o.data = .fields vs/\vs[2]?=some .none:=by
  obtain ⟨t,e1,_,_⟩:=hm.there;have nxH:H x=none:=abD I.hok hm.new;refine ⟨{ cls := .ref C,data := .fields #[.ref t,.none,.none,.none,.bool false,.none] },#[.ref t,.none,.none,.none,.bool false,.none],nxH,?_,rfl,rfl⟩;generalize ho:({ cls := .ref C,data := .fields #[.ref t,.none,.none,.none,.bool false,.none] }:Obj)=o at e1;have sn:Same H (upd H x (.nQ o (.ext (yM C x)))):=bH nxH;have nst:∀ b u,s.heap.get? b=some u->b≠x:=fun b u e z=>by subst z;rw [hm.new] at e;cases e
  refine I.call' (ch:=[]) (s':={ s with heap:=h' }) rfl ⟨fun b u e n _ _=>hm.keeps b u e,fun b u e n _ _=>⟨u.slots,hm.keeps b u e⟩,fun b u e n _=>by rw [aJ (nst b u e)];exact n,fun b u e _=>⟨u,hm.keeps b u e⟩,fun b xs z=>sn _ _ z,fun b u v z=>sn _ _ z,fun b ps z=>⟨#[],by rw [Array.append_empty];exact sn _ _ z⟩⟩ (fun b u e=>?_) I.bare fun b z=>absurd z (by simp);by_cases hb:b=x
  . subst hb;rw [aF] at e;cases e;exact ⟨e1,⟨o,_,e1,by rw [← ho],by rw [← ho]⟩,⟨o,e1⟩,fun h1 h2 ⟨o1,w1,e1,e2,e3⟩ k=>⟨o1,w1,k _ e1,e2,e3⟩⟩
  . rw [aJ hb] at e;exact ((I.hok.kept hm.keeps) b u e).stay (fun _ _ _ z=>z) (fun c z=>sn _ _ z) fun c xs z=>sn _ _ z
theorem abQ {σ:St} {Q:VK} (Fn:ExcBaseFacts Bn newId inN bmN) (hBn:bmB.contains (.type Bn)=true) (FB:ExcBaseFacts B nid initId bmB) (hq:ju X.K C bmB newId=true) (I:Inv X pins σ H s) (g:HR X.K H G) (hl:us.length<=sizeLine) (q:∀ x,G x=none->R (.ref x) (aM G x (.exn C)))
    (k:∀ v H' d G',Ts H H'->RD X.K H' d v->HR X.K H' G'->R d G'->Q v H'):wpAny (model X.prog X.w) X.A (call (.ref C) us) (EP X pins σ Q) X.xe s:=by
  obtain ⟨tl,N,nm,q',bs,hdct,sn,sub,ab,col,dd',k0,k1,k2,k3,k5,mN,hC,hN,hni,T⟩:=a3F I.mod.kin hq;obtain ⟨h,g0,d0,t0,os0⟩:=s;refine wpAny_call_exc_subU (hrest:=hl) Fn hBn FB (T.keeps I.bk) (I.bk _ _ hC) (hN.keeps I.bk) hni fun h' x hm=>?_;obtain ⟨o,vs,nx,J,d1,d2⟩:=al6 I hm;have sn:Same H (upd H x (.nQ o (.ext (yM C x)))):=bH nx;exact ⟨.ref x,_,J,rfl,k _ _ _ _ (.same sn) (.ref x) (g.put (u := .exn C) nx ⟨o,vs,aF,d1,d2⟩) (q x (iJ (K:=X.K) g nx (uP (X:=X) J)))⟩
theorem aCZ (Fn:ExcBaseFacts Bn newId inN bmN) (hBn:bmB.contains (.type Bn)=true) (FB:ExcBaseFacts B nid initId bmB) (hg:Gl X x) (hm:X.mg x=some (.ref C)) (hq:ju X.K C bmB newId=true) (ha:PA3 X (e :: es) t) (hd:(x == ("__debug__" : Str))=false)
    (he:starEach (e :: es) X.env=(false,eval e X.env) :: starEach es X.env) (hpl:(backTo cpos (starEach es X.env)).any (·.1)=false):cI X (.Call (.Name x np) (e :: es) [] cpos) (al5 C t):=by
  intro pins s σ H Q I h _tk;obtain ⟨ρ,G,R,sr,g,q,kk⟩:=h;obtain ⟨tl,N,nm,q',bs,hdct,sn,sub,ab,col,dd',k0,k1,k2,k3,k5,mN,hC,hN,hni,T⟩:=a3F I.mod.kin hq;refine wpAny_Call_ofName (jX I hg hm ?_ hd);unfold callWith;have hA:=ha cpos pins s σ H (fun vs H1=>Ts H H1/\∃ ds G1,bR X.K H1 ds vs/\HR X.K H1 G1/\ds.length<=sizeLine/\∀ x,G1 x=none->R (.ref x) (aM G1 x (.exn C))) I ⟨ρ,G,_,sr,g,q,fun vs H1 ds G1 t1 r1 g1 q1=>⟨t1,ds,G1,r1,g1,q1.1,q1.2⟩⟩;have hp2:(backTo cpos (starEach (e :: es) X.env)).any (·.1)=false:=by rw [he];show (false || (backTo cpos (starEach es X.env)).any (·.1))=false;rw [hpl];rfl
  rw [he] at hA hp2 ⊢;refine aj (wpAny_holding (Calls.evalArgs_plain (cR hA fun us s2 ⟨vs,H2,I2,r2,t1,ds,G1,r1,g1,hl,q1⟩=>aj (wpAny_standAt ?_))));have hl2:us.length<=sizeLine:=by rw [← r2.length,← r1.length];exact hl
  simp only [hp2];obtain ⟨h0,g0,d0,t0,os0⟩:=s2;refine aj (wpAny_keeperOf_exc (I2.bk _ _ hC) ?_);refine aj (cR (abQ Fn hBn FB hq I2 g1 hl2 q1 fun v H' d G' t3=>kk v H' d G' (t1.trans t3)) fun v s3 q3=>aj (wpAny_holding (wpAny_point (aq q3))))
theorem axH (Fn:ExcBaseFacts Bn newId inN bmN) (hBn:bmB.contains (.type Bn)=true) (FB:ExcBaseFacts B nid initId bmB) (hg:Gl X x) (hm:X.mg x=some (.ref C)) (hq:ju X.K C bmB newId=true) (hd:(x == ("__debug__" : Str))=false):cI X (.Call (.Name x np) [] [] cpos) (al5 C aC):=by
  intro pins s σ H Q I h _tk;obtain ⟨ρ,G,R,sr,g,⟨hl,q⟩,kk⟩:=h;obtain ⟨tl,N,nm,q',bs,hdct,sn,sub,ab,col,dd',k0,k1,k2,k3,k5,mN,hC,hN,hni,T⟩:=a3F I.mod.kin hq;refine wpAny_Call_ofName (jX I hg hm ?_ hd);unfold callWith;refine aj (wpAny_holding (PySem.evalArgs_none (aj (wpAny_standAt ?_))));obtain ⟨h0,g0,d0,t0,os0⟩:=s;refine aj (wpAny_keeperOf_exc (I.bk _ _ hC) ?_);refine aj (cR (abQ (us:=[]) Fn hBn FB hq I g (oh _) q kk) fun v s3 q3=>aj (wpAny_holding (wpAny_point (aq q3))))
end
end
section
section
variable {X:Cx} {o e value:Expr} {f:Str} {C:Addr} {pos pos':Pos} {ta tv:cF}
end
section
variable {X:Cx} {qt:Bool} {k:Nat} {f C:Addr} {fd:FuncData} {ps:List Str} {sp:kJ} {EX:aP->aY} {x m:Str} {p pos apos:Pos} {o e:Expr} {es:List Expr} {t:pL} {ta:cF} {dd:List D} {zX:List V} {ds:List Value}
noncomputable def ae1 (C:Addr) (sp:kJ) (dd:List D) (EX:aP->aY) (t:pL):cF:=fun ρ G R=>t ρ G fun ds G1=>∀ x,G1 x=none->sp (.ref x :: (ds++dd)) (aM G1 x (.ins C [])) (fun v G2=>v = .non/\R (.ref x) G2) (EX ρ)
theorem a8C {σ:St} {Q:VK} {rF:List D} (M:Mk X.K C f) (F:cG qt X.prog X.w X.K X.mg X.base (iK X.prog X.w) k f fd ps (cY X.K sp)) (hr:cO qt (k+1) X.A) (hb:Binds X.K fd ps ds) (hd:Vals zX ds) (hdd:∀ H,bR X.K H dd zX) (hx:Cat X EX)
    (I:Inv X pins σ H s) (sr:SR X.K H ρ σ) (g:HR X.K H G) (r:Vals vs us) (r2:bR X.K H rF vs) (h:∀ x,G x=none->sp (.ref x :: (rF++dd)) (aM G x (.ins C [])) (fun v G2=>v = .non/\R (.ref x) G2) (EX ρ))
    (hQ:∀ v H' d G',Ts H H'->RD X.K H' d v->HR X.K H' G'->R d G'->Q v H'):wpAny (model X.prog X.w) X.A (call (.ref C) us) (EP X pins σ Q) X.xe s:=by
  have n1:H (s.heap.objs.size+1)=none:=I.hok.fresh (Nat.le_succ _);have n0:H s.heap.objs.size=none:=I.hok.fresh (bw _);have ne:s.heap.objs.size+1≠s.heap.objs.size:=Nat.succ_ne_self _;have I2:=Inv.made (C:=C) I
  have kl:X.K.lookup (s.heap.objs.size+1)=none:=by
    cases q:X.K.lookup (s.heap.objs.size+1) with
    | none=>rfl
    | some u=>have:=uP I2 _ u q;rw [aF] at this;cases this
  have gn:G (s.heap.objs.size+1)=none:=iJ (o := .ins C s.heap.objs.size []) g n1 fun b u e=>by
    by_cases c:b=s.heap.objs.size+1
    . subst c;rw [kl] at e;cases e
    . rw [aJ c];exact uP I b u e
  have t1:Ts H (upd H s.heap.objs.size (.own (s.heap.objs.size+1))) := .same (bH n0);have n1':upd H s.heap.objs.size (.own (s.heap.objs.size+1)) (s.heap.objs.size+1)=none:=by rw [aJ ne];exact n1
  have t2:Ts (upd H s.heap.objs.size (.own (s.heap.objs.size+1))) (upd (upd H s.heap.objs.size (.own (s.heap.objs.size+1))) (s.heap.objs.size+1) (.ins C s.heap.objs.size [])) := .same (bH n1');have g1:HR X.K (upd H s.heap.objs.size (.own (s.heap.objs.size+1))) G:=g.same (bH n0);have g2:HR X.K (upd (upd H s.heap.objs.size (.own (s.heap.objs.size+1))) (s.heap.objs.size+1) (.ins C s.heap.objs.size [])) (aM G (s.heap.objs.size+1) (.ins C [])):=g1.put n1' ⟨s.heap.objs.size,[],aF,.nil⟩
  have hq:cY X.K sp (V.ref (s.heap.objs.size+1) :: (vs++zX)) (upd (upd H s.heap.objs.size (.own (s.heap.objs.size+1))) (s.heap.objs.size+1) (.ins C s.heap.objs.size [])) (fun v H'=>v = .non/\∃ G',HR X.K H' G'/\R (.ref (s.heap.objs.size+1)) G') (a2I X.K (EX ρ)) :=
    ⟨.ref (s.heap.objs.size+1) :: (rF++dd),_,_,EX ρ,.cons (.ref _) (((r2.mono t1).mono t2).append (hdd _)),g2,h _ gn,fun v H' d G' r3 g3 q3=>by
      obtain ⟨rfl,q3⟩:=q3;cases r3;exact ⟨rfl,G',g3,q3⟩,fun C H' G' g' q'=>⟨C,G',rfl,g',q'⟩⟩
  have rr:Vals (V.ref (s.heap.objs.size+1) :: (vs++zX)) (Value.ref (s.heap.objs.size+1) :: (us++ds)) := .cons rfl (r.append hd)
  have hl:(Value.ref (s.heap.objs.size+1) :: us++ds).length=ps.length:=by
    have e:=rr.length;rw [F.len _ _ _ _ hq] at e;exact e.symm
  refine wpAny_call (ajS (f:=f) I.kIn M.makes M.init (beq_iff_eq.mp M.fn) (codeAny_mono (F.run _ X.stack _ _ ⟨Value.ref (s.heap.objs.size+1) :: us,[]⟩ (Value.ref (s.heap.objs.size+1) :: (us++ds)) _ _ _ (hr.make C us [])
    (I2.env0.make C us []) (hb _ (Value.ref (s.heap.objs.size+1) :: us) I2.kIn hl) rr hq) fun r s' hq'=>?_))
  cases r with
  | error e=>exact hx.afR pins σ _ _ ρ e s' I2 ((sr.mono t1).mono t2) hq'
  | ok fl =>
    cases fl with
    | ret u =>
      obtain ⟨v,H',os,bare,un,hok,rv,ev,G',g3,q3⟩:=hq';subst ev;exact ⟨rv,⟨V.ref (s.heap.objs.size+1),H',I2.call' (ch:=[]) os un hok bare (fun b z=>absurd z (by simp)),rfl,hQ _ H' (.ref _) G' ((t1.trans t2).trans ⟨un.tups,un.dI⟩) (.ref _) g3 q3⟩⟩
    | next=>exact False.elim hq'
    | brk=>exact False.elim hq'
    | cont=>exact False.elim hq'
theorem aq9 (M:Mk X.K C f) (F:cG qt X.prog X.w X.K X.mg X.base (iK X.prog X.w) k f fd ps (cY X.K sp)) (hr:cO qt (k+1) X.A) (hg:Gl X x) (hm:X.mg x=some (.ref C)) (hb:Binds X.K fd ps ds) (hd:Vals zX ds) (hdd:∀ H,bR X.K H dd zX) (hx:Cat X EX)
    (ha:PA3 X (e :: es) t) (hdb:(x == ("__debug__" : Str))=false) (he:starEach (e :: es) X.env=(false,eval e X.env) :: starEach es X.env) (hpl:(backTo pos (starEach es X.env)).any (·.1)=false) :
    cI X (.Call (.Name x p) (e :: es) [] pos) (ae1 C sp dd EX t):=by
  intro pins s σ H Q I h _tk;obtain ⟨ρ,G,R,sr,g,q,kk⟩:=h;refine wpAny_Call_Name_kw (jX I hg hm ?_ hdb);refine PySem.W.callWith_K (h₀:=X.base) I.ok.mod.kin M.kp (cR (ha pos pins s σ H (fun vs H1=>Ts H H1/\∃ ds G1,bR X.K H1 ds vs/\HR X.K H1 G1/\∀ x,G1 x=none->sp (.ref x :: (ds++dd)) (aM G1 x (.ins C [])) (fun v G2=>v = .non/\R (.ref x) G2) (EX ρ)) I ⟨ρ,G,_,sr,g,q,fun vs H1 ds G1 t1 r1 g1 q1=>⟨t1,ds,G1,r1,g1,q1⟩⟩) fun us s1 ⟨vs,H1,I1,r,t1,ds,G1,r1,g1,q1⟩=>⟨I1.kIn,?_⟩) he hpl;exact a8C M F hr hb hd hdd hx I1 (sr.mono t1) g1 r r1 q1 fun v H' d G' t2=>kk v H' d G' (t1.trans t2)
theorem al7 (M:Mk X.K C f) (F:cG qt X.prog X.w X.K X.mg X.base (iK X.prog X.w) k f fd ps (cY X.K sp)) (hr:cO qt (k+1) X.A) (hg:Gl X x) (hm:X.mg x=some (.ref C)) (hb:Binds X.K fd ps ds) (hd:Vals zX ds) (hdd:∀ H,bR X.K H dd zX) (hx:Cat X EX)
    (hdb:(x == ("__debug__" : Str))=false):cI X (.Call (.Name x p) [] [] pos) (ae1 C sp dd EX aC):=by
  intro pins s σ H Q I h _tk;obtain ⟨ρ,G,R,sr,g,q,kk⟩:=h;refine wpAny_Call_Name_kw (jX I hg hm ?_ hdb);exact PySem.W.callWith_K0 I.kIn M.kp (a8C (us:=[]) (vs:=[]) (rF:=[]) M F hr hb hd hdd hx I sr g .nil .nil q fun v H' d G' t2=>kk v H' d G' t2)
end
end
variable {t':Nat}{ch:List Addr}
section
section
variable {X:Cx} {pins:List (Addr×Obj)} {σ:St} {H:Hp} {s:Shared} {h':Heap}
theorem Inv.ag2 (I:Inv X pins σ H s) (k:∀ b u,b ∉ ch->s.heap.get? b=some u->h'.get? b=some u) (hc:∀ b∈ch,nU X pins H b):Inv X pins σ H { s with heap:=h',toks:=t' }:=by
  have nit:∀ b u,H b=some u->b ∉ ch:=fun b u e z=>by rw [(hc b z).1] at e;cases e
  refine I.step (g':=s.gens) (d':=s.drawn) (ch:=ch) (fun b hb=>?_) (fun b o _ _ hn e _=>k b o hn e) (fun b o _ _ hn e _=>⟨o.slots,k b o hn e⟩) (fun _ _ _ _ n=>n) (fun b o hn e=>⟨o,k b o hn e⟩) (fun _ _ e=>e) (fun _ _ _ e=>e) (fun b ps e=>⟨#[],by rw [e];simp⟩) (fun m hm=>?_) (fun b u e=>?_) I.bare
  . obtain ⟨_,f1,_,f3,f4,f5⟩:=hc b hb;exact ⟨f3,f1,f4,f5⟩
  . obtain ⟨o,es,ep,ho,r⟩:=hm;exact ⟨o,es,ep,k _ o (fun z=>(hc _ z).2.1 rfl) ho,r⟩
  . refine (I.hok b u e).stay (fun c v hcc q=>k c v ?_ q) (fun _ q=>q) fun _ _ q=>q;rcases hcc with z | z
    . rw [z];exact nit b u e
    . exact nit c _ z
end
section
variable {X:Cx} {es:List Expr} {kt:Nat} {pt:Pos}
end
section
variable {prog:Program} {w:World} {A:Around} {R:Result->Shared->Prop} {I:Addr} {fp wr:List Addr} {n:Nat} {P:Nat->Value->Prop} {St:Nat->Heap->Prop} {kw:List (Str×Value)}
end
section
variable {X:Cx} {x:Str} {p pos kp:Pos} {e d:Expr} {te td:cF}
end
end
variable {x:List Key×Addr×Value}{kvs:List (DK×D)}{vy:V}{ks:List Key}{P':Program}
section
noncomputable def aD0:D->Option Key
  | .int i=>some (.inl i)
  | .str x=>some (.inr x)
  | _=>none
noncomputable def axI:List D->Option (List Key)
  | []=>some []
  | d :: r=>match aD0 d,axI r with
    | some k,some ks=>some (k :: ks)
    | _,_=>none
noncomputable def al8:D->Option DK
  | .int i=>some (.inl (.inl i))
  | .str x=>some (.inl (.inr x))
  | _=>none
noncomputable def a8D:DK->Bool
  | .inl _=>false
  | .inr _=>true
section
variable {κ:Type} [DecidableEq κ] {α:Type}
noncomputable def gR:List (κ×α)->κ->Option α
  | [],_=>none
  | p :: r,k=>if p.1=k then some p.2 else gR r k
noncomputable def a5A (kvs:List (κ×α)) (k:κ) (v:α):List (κ×α):=if (gR kvs k).isSome=true then kvs.map (fun kv=>if kv.1=k then (kv.1,v) else kv) else kvs++[(k,v)]
noncomputable def al9 (kvs:List (κ×α)) (k:κ):List (κ×α):=kvs.filter fun kv=>!decide (kv.1=k)
end
noncomputable abbrev a0E {κ:Type} (K:Fg) (H:Hp) (f:κ->DK):List (DK×D)->List (κ×V)->Prop:=Two fun p q=>p.1=f q.1/\RD K H p.2 q.2
variable {v:V}
section
variable {κ:Type} [DecidableEq κ] {K:Fg} {H:Hp} {f:κ->DK}
theorem val_two (hf:∀ a b,f a=f b->a=b) {k:κ}:∀ {kvs:List (DK×D)} {xs:List (κ×V)},a0E K H f kvs xs->(∀ d,gR kvs (f k)=some d->∃ v,vI xs k=some v/\RD K H d v)/\(gR kvs (f k)=none->vI xs k=none)
  | _,_,.nil=>⟨fun d e=>(nomatch e),fun _=>rfl⟩
  | p :: kvs,q :: xs,.cons h r=>by
    obtain ⟨h1,h2⟩:=h;by_cases c:q.1=k
    . have c2:p.1=f k:=by rw [h1,c]
      unfold gR;rw [if_pos c2,zZ c];exact ⟨fun d e=>by cases e;exact ⟨_,rfl,h2⟩,fun e=>(nomatch e)⟩
    . have c2:¬ p.1=f k:=fun z=>c (hf _ _ (h1.symm.trans z));unfold gR;rw [if_neg c2,a00 c];exact val_two hf r
theorem alA (hf:∀ a b,f a=f b->a=b) {k:κ} {xs:List (κ×V)} (t:a0E K H f kvs xs):(gR kvs (f k)).isSome=(vI xs k).isSome:=by
  have z:=val_two hf (k:=k) t;cases e:gR kvs (f k) with
  | none=>rw [z.2 e];rfl
  | some d=>obtain ⟨v,e2,_⟩:=z.1 d e;rw [e2];rfl
theorem ag3 {g:DK×D->DK×D} {h:κ×V->κ×V} (gh:∀ p q,p.1=f q.1/\RD K H p.2 q.2->(g p).1=f (h q).1/\RD K H (g p).2 (h q).2):∀ {kvs:List (DK×D)} {xs:List (κ×V)},a0E K H f kvs xs->a0E K H f (kvs.map g) (xs.map h)
  | _,_,.nil => .nil
  | _,_,.cons z r => .cons (gh _ _ z) (ag3 gh r)
theorem abR {p:DK×D} {q:κ×V} (z:p.1=f q.1/\RD K H p.2 q.2):∀ {kvs:List (DK×D)} {xs:List (κ×V)},a0E K H f kvs xs->a0E K H f (kvs++[p]) (xs++[q])
  | _,_,.nil => .cons z .nil
  | _,_,.cons y r => .cons y (abR z r)
theorem a3J (hf:∀ a b,f a=f b->a=b) {k:κ} (rd:RD K H d v) {xs:List (κ×V)} (t:a0E K H f kvs xs):a0E K H f (a5A kvs (f k) d) (putK xs k v):=by
  unfold a5A putK;rw [a4B,alA hf t];split
  . refine ag3 (fun p q ⟨h1,h2⟩=>?_) t;by_cases c:q.1=k
    . rw [if_pos (show p.1=f k by rw [h1,c]),if_pos c];exact ⟨h1,rd⟩
    . rw [if_neg (show ¬ p.1=f k from fun z=>c (hf _ _ (h1.symm.trans z))),if_neg c];exact ⟨h1,h2⟩
  . exact abR (p:=(f k,d)) (q:=(k,v)) ⟨rfl,rd⟩ t
end
theorem sV (a b:Key) (h:(Sum.inl a:DK) = .inl b):a=b:=by cases h;rfl
theorem sW (a b:List Key) (h:(Sum.inr a:DK) = .inr b):a=b:=by cases h;rfl
noncomputable def rH (x y:D) (G:Gp) (P:Addr->Bool->List (DK×D)->DK->Prop):Prop:=match x with
  | .ref a=>(match G a,al8 y with
    | some (.lX t kvs),some k=>a8D k=t/\P a t kvs k
    | _,_=>False)
  | _=>False
noncomputable def a5B (K:Fg) (H:Hp) (a:Addr) (vy:V) (kvs:List (DK×D)) (k:DK):Prop :=
  (∃ k' xs,k = .inl k'/\H a=some (.dK xs)/\a0E K H .inl kvs xs/\vy=kV k')∨∃ ks xs b,k = .inr ks/\H a=some (.dT xs)/\a0E K H .inr kvs xs/\vy = .ref b/\H b=some (.tup (ks.map kV))
variable {y:D}
theorem a9U {K:Fg} {k:DK} (ry:RD K H y vy) (e:al8 y=some k):(∃ k',k = .inl k'/\vy=kV k')∨∃ ks b,k = .inr ks/\vy = .ref b/\H b=some (.tup (ks.map kV)):=by
  cases ry with
  | int i=>cases e;exact .inl ⟨_,rfl,rfl⟩
  | str x=>cases e;exact .inl ⟨_,rfl,rfl⟩
  | _=>cases e
theorem oE {K:Fg} {x:D} {P:Addr->Bool->List (DK×D)->DK->Prop} (rx:RD K H x vx) (ry:RD K H y vy) (g:HR K H G) (h:rH x y G P) :
    ∃ a kvs k,x = .ref a/\vx = .ref a/\G a=some (.lX (a8D k) kvs)/\al8 y=some k/\P a (a8D k) kvs k/\a5B K H a vy kvs k:=by
  unfold rH at h;split at h
  . rename_i a;split at h
    . rename_i t kvs k e1 e2;obtain ⟨rfl,h⟩:=h;cases rx;refine ⟨a,kvs,k,rfl,rfl,e1,e2,h,?_⟩;rcases g a _ e1 with ⟨z,xs,e3,r⟩ | ⟨z,xs,e3,r⟩
      . rcases a9U ry e2 with ⟨k',rfl,rfl⟩ | ⟨ks,b,rfl,_⟩
        . exact .inl ⟨k',xs,rfl,e3,r,rfl⟩
        . cases z
      . rcases a9U ry e2 with ⟨k',rfl,rfl⟩ | ⟨ks,b,rfl,rfl,eb⟩
        . cases z
        . exact .inr ⟨ks,xs,b,rfl,e3,r,rfl,eb⟩
    . exact h.elim
  . exact h.elim
theorem a5B.get {K:Fg} {k:DK} (h:a5B K H a vy kvs k):(∀ d,gR kvs k=some d->∃ v,z9 H a vy (some v)/\RD K H d v)/\(gR kvs k=none->z9 H a vy none):=by
  rcases h with ⟨k',xs,rfl,e,r,rfl⟩ | ⟨ks,xs,b,rfl,e,r,rfl,eb⟩
  . have z:=val_two sV (k:=k') r;exact ⟨fun d e2=>(z.1 d e2).elim fun v q=>⟨v,by rw [← q.1];exact .k e,q.2⟩,fun e2=>by rw [← z.2 e2];exact .k e⟩
  . have z:=val_two sW (k:=ks) r;exact ⟨fun d e2=>(z.1 d e2).elim fun v q=>⟨v,by rw [← q.1];exact .t e eb,q.2⟩,fun e2=>by rw [← z.2 e2];exact .t e eb⟩
theorem a5B.any {K:Fg} {k:DK} (h:a5B K H a vy kvs k):∃ o,z9 H a vy o/\o.isSome=(gR kvs k).isSome/\∀ d v,RD K H d v->RD K H ((gR kvs k).getD d) (o.getD v):=by
  have z:=h.get;cases e:gR kvs k with
  | none=>exact ⟨none,z.2 e,rfl,fun d v r=>r⟩
  | some d=>obtain ⟨v,g,r⟩:=z.1 d e;exact ⟨some v,g,rfl,fun _ _ _=>r⟩
theorem a5B.put {K:Fg} {k:DK} (g:HR K H G) (h:a5B K H a vy kvs k) (rv:RD K H d v) (hl:kvs.length < sizeLine):∃ H',ahY H a vy v H'/\Ts H H'/\HR K H' (aM G a (.lX (a8D k) (a5A kvs k d))):=by
  rcases h with ⟨k',xs,rfl,e,r,rfl⟩ | ⟨ks,xs,b,rfl,e,r,rfl,eb⟩
  . have tt:Ts H (upd H a (.dK (putK xs k' v))) := .turn e (fun _ z=>nomatch z) (fun _ _ z=>nomatch z);exact ⟨_,.k e (by rw [← r.length];exact hl),tt,g.turn (u := .lX false _) tt (.inl ⟨rfl,_,aF,(a3J sV rv r).imp fun _ _ q=>⟨q.1,q.2.mono tt⟩⟩)⟩
  . have tt:Ts H (upd H a (.dT (putK xs ks v))) := .turn e (fun _ z=>nomatch z) (fun _ _ z=>nomatch z);exact ⟨_,.t e eb (by rw [← r.length];exact hl),tt,g.turn (u := .lX true _) tt (.inr ⟨rfl,_,aF,(a3J sW rv r).imp fun _ _ q=>⟨q.1,q.2.mono tt⟩⟩)⟩
noncomputable def alB (G:Gp) (a:Addr):Option (Bool×List (DK×D)):=match G a with
  | some (.lX t kvs)=>some (t,kvs)
  | some (.rdc _ t kvs)=>some (t,kvs)
  | _=>none
theorem alC {K:Fg} {t:Bool} (g:HR K H G) (e:alB G a=some (t,kvs)) :
    (t=false/\∃ xs:List (Key×V),Rd H a (.dK xs)/\a0E K H .inl kvs xs)∨(t=true/\∃ xs:List (List Key×V),Rd H a (.dT xs)/\a0E K H .inr kvs xs):=by
  unfold alB at e;split at e
  . rename_i t' kvs' q;cases e;rcases g a _ q with ⟨z,xs,e2,tw⟩ | ⟨z,xs,e2,tw⟩
    . exact .inl ⟨z,xs,.inl e2,tw⟩
    . exact .inr ⟨z,xs,.inl e2,tw⟩
  . rename_i o t' kvs' q;cases e;rcases g a _ q with ⟨z,xs,e2,tw⟩ | ⟨z,xs,e2,tw⟩
    . exact .inl ⟨z,xs,.inr ⟨o,e2⟩,tw⟩
    . exact .inr ⟨z,xs,.inr ⟨o,e2⟩,tw⟩
  . cases e
noncomputable def ae2 (x y:D) (G:Gp) (P:List (DK×D)->DK->Prop):Prop:=match x with
  | .ref a=>(match alB G a,al8 y with
    | some (t,kvs),some k=>a8D k=t/\P kvs k
    | _,_=>False)
  | _=>False
theorem aiG {K:Fg} {x:D} {P:List (DK×D)->DK->Prop} (rx:RD K H x vx) (ry:RD K H y vy) (g:HR K H G) (h:ae2 x y G P) :
    ∃ a kvs k,x = .ref a/\vx = .ref a/\P kvs k/\∀ d,gR kvs k=some d->∃ v,z9 H a vy (some v)/\RD K H d v:=by
  unfold ae2 at h;split at h
  . rename_i a;split at h
    . rename_i t kvs k e1 e2;obtain ⟨rfl,h⟩:=h;cases rx;refine ⟨a,kvs,k,rfl,rfl,h,fun d ed=>?_⟩;rcases alC g e1 with ⟨z,xs,e3,r⟩ | ⟨z,xs,e3,r⟩
      . rcases a9U ry e2 with ⟨k',rfl,rfl⟩ | ⟨ks,b,rfl,_⟩
        . obtain ⟨v,e4,rv⟩:=(val_two sV (k:=k') r).1 d ed;exact ⟨v,.inl ⟨xs,k',e3,rfl,e4.symm⟩,rv⟩
        . cases z
      . rcases a9U ry e2 with ⟨k',rfl,rfl⟩ | ⟨ks,b,rfl,rfl,eb⟩
        . cases z
        . obtain ⟨v,e4,rv⟩:=(val_two sW (k:=ks) r).1 d ed;exact ⟨v,.inr ⟨xs,ks,b,e3,rfl,eb,e4.symm⟩,rv⟩
    . exact h.elim
  . exact h.elim
noncomputable def axJ:R3:=fun x y G R=>ae2 x y G fun kvs k=>match gR kvs k with
  | some d=>R d G
  | none=>False
noncomputable def atF:R3:=fun x y G R=>rH y x G fun _ _ kvs k=>R (.bl (gR kvs k).isSome) G
noncomputable def a1Y:R3:=fun x y G R=>match x,y with
  | .tup ds,.ref a=>(match G a with
    | some (.kst ks)=>∃ n:List Int,ds=n.map D.int/\R (.bl (!decide (n∈ks))) G
    | some (.nst ks)=>∃ k:NK,ds=[.tup (k.1.map D.int),.int k.2]/\R (.bl (!decide (k∈ks))) G
    | some (.lX true [])=>∃ k:NK,ds=[.tup (k.1.map D.int),.int k.2]/\R (.bl true) G
    | _=>False)
  | _,_=>rH y x G fun _ _ kvs k=>R (.bl (!(gR kvs k).isSome)) G
theorem abS {k:List Key}:∀ {xs:List (List Key×Addr×Value)},(atKey xs k).isSome=true↔k∈xs.map (·.1)
  | []=>by simp [atKey]
  | x :: r=>by
    have ih:=abS (k:=k) (xs:=r);unfold atKey at ih ⊢;by_cases c:x.1=k
    . simp [c]
    . have c2:¬ k=x.1:=fun e=>c e.symm;rw [List.find?_cons_of_neg (by simp [c]),ih,iu,jq];exact ⟨.inr,fun z=>z.elim (fun z=>absurd z c2) id⟩
theorem alD {σ:St} (I:Inv X pins σ H s) (h:uL X.K H b (ks.map kV)):(tupleKind (aL X.prog X.w)).is s.heap ks b:=by
  obtain ⟨its,r,⟨o,h1,h2,n,h3⟩,_⟩:=I.tuple h;exact ⟨o,its.toArray,n,h1,h2,h3,by simpa using xJ r⟩
theorem aqA {w w':World} (h:x.1=(toI x.1).map Sum.inl):entryOfKey (tupleKind (aL P w)) x=entryOfKey (tupleKind (aL P' w')) x:=by
  have e:x.1.map (aL P w).hash=x.1.map (aL P' w').hash:=by
    rw [h,jm,jm];rfl
  show (⟨reduceHash (Builtin.Tuple.tupleHashOf (x.1.map (aL P w).hash)),_,_⟩:DictEntry)=⟨reduceHash (Builtin.Tuple.tupleHashOf (x.1.map (aL P' w').hash)),_,_⟩;rw [e]
theorem kst_in {n:List Int} {ys:List (List Key×Addr×Value)} (h:∀ x∈ys,x.1=(toI x.1).map Sum.inl):(atKey ys (n.map Sum.inl)).isSome=decide (n∈ys.map fun x=>toI x.1):=by
  rw [wg,abS,decide_eq_true_eq,jc,jc];refine ⟨fun ⟨x,hx,e⟩=>⟨x,hx,by rw [e,apB]⟩,fun ⟨x,hx,e⟩=>⟨x,hx,?_⟩⟩;rw [h x hx,e]
theorem a9V {K:Fg} {H:Hp}:∀ {n:List Int} {vs:List V},bR K H (n.map D.int) vs->vs=(n.map (Sum.inl:Int->Key)).map kV
  | [],_,.nil=>rfl
  | i :: r,_,.cons h t=>by
    cases h;rw [a9V t];rfl
section
variable {X:Cx} {o i value e f:Expr} {to ti tv te tf:cF} {pos pos' apos cpos:Pos}
theorem aJO (hu:X.A.units+64 < cLine) (ho:cI X o to) (hi:cI X i ti) (hs:avH i):cI X (.Subscript o i pos) (aG axJ to ti):=by
  refine PE.imp (aoQ (by omega) ho hi hs) fun σ H Q h=>?_;obtain ⟨ρ,G,R,s,g,t,k⟩:=h;refine ⟨ρ,G,_,s,g,t,fun vx H1 x G1 t1 rx g1 t'=>?_⟩;refine ⟨ρ,G1,_,s.mono t1,g1,t',fun vy H2 y G2 t2 ry g2 t''=>?_⟩;obtain ⟨a,kvs,kk,rfl,rfl,q,dd⟩:=aiG (rx.mono t2) ry g2 t'';split at q
  . rename_i d e2;obtain ⟨v,gg,rv⟩:=dd d e2;exact ⟨a,v,rfl,gg,k v H2 d G2 (t1.trans t2) rv g2 q⟩
  . exact q.elim
theorem aD1 (hu:X.A.units+64 < cLine):pO X (compareOp .In) atF:=a9J fun pins s σ H x y vx vy u v G R Q I rx ry ru rv g q k=>by
  obtain ⟨a,kvs,kk,rfl,rfl,e1,_,q,dd⟩:=oE ry rx g q;obtain ⟨o,gg,eo,_⟩:=dd.any;obtain rfl:v=Value.ref a:=rv;exact aGF (by omega) I gg ru fun s' I'=>⟨.bl o.isSome,H,I',rfl,k _ H (.bl _) G (.refl H) (.bl _) g (by rw [eo];exact q)⟩
theorem ag4 {σ:St} {k:NK} (I:Inv X pins σ H s) (h:NSq X.K H k a):a4L s.heap k a:=by
  obtain ⟨b,q1,q2⟩:=h;obtain ⟨its,r,⟨o,h1,h2,n,h3⟩,_⟩:=I.tuple q1;obtain ⟨jts,r2,⟨o2,g1,g2,n2,g3⟩,_⟩:=I.tuple q2;cases r with
  | cons ra r =>
  cases r with
  | cons rb r =>
  cases r;cases ra;obtain ⟨t,rfl⟩:=rb;refine ⟨o,b,t,n,h1,h2,h3,fun P w=>⟨o2,jts.toArray,n2,g1,g2,g3,?_⟩⟩
  have e:k.1.map V.int=(k.1.map (Sum.inl:Int->Key)).map kV:=by
    rw [jm];rfl
  rw [e] at r2;simpa using xJ r2
theorem axK {w w':World} {x:NK×Addr×Value}:entryOfKey (zA P w) x=entryOfKey (zA P' w') x:=by
  have e:(x.1.1.map (Sum.inl:Int->Key)).map (aL P w).hash=(x.1.1.map (Sum.inl:Int->Key)).map (aL P' w').hash:=by
    rw [jm,jm];rfl
  show (⟨reduceHash (Builtin.Tuple.tupleHashOf [reduceHash (Builtin.Tuple.tupleHashOf ((x.1.1.map (Sum.inl:Int->Key)).map (aL P w).hash)),(aL P w).hash (.inl x.1.2)]),_,_⟩:DictEntry)=⟨reduceHash (Builtin.Tuple.tupleHashOf [reduceHash (Builtin.Tuple.tupleHashOf ((x.1.1.map (Sum.inl:Int->Key)).map (aL P' w').hash)),(aL P' w').hash (.inl x.1.2)]),_,_⟩;rw [e];rfl
theorem ae3 {σ:St} {ks:List NK} (I:Inv X pins σ H s) (g:HR X.K H G) (e:G a=some (.nst ks)∨(G a=some (.lX true [])/\ks=[])):∃ ys:List (NK×Addr×Value),Mut (H a)/\(∀ xs,H a≠some (.tup xs))/\(∀ o u,H a≠some (.nQ o u))/\ys.map (·.1)=ks/\(a == sysModules)=false/\s.heap.DictOfH (zA X.prog X.w) a ys/\∀ x∈ys,NSq X.K H x.1 x.2.1:=by
  rcases e with e | ⟨e,rfl⟩
  . obtain ⟨P,w,ys,e3,e4,e5⟩:=g a _ e;obtain ⟨⟨hd,o,es,ep,h1,h2,h3,h4,h5⟩,_⟩:=(show dG X.prog X.w H s.heap a (.ext _) from I.hok a _ e3);exact ⟨ys,by rw [e3];exact True.intro,(fun xs z=>by rw [e3] at z;cases z),(fun o u z=>by rw [e3] at z;cases z),e4,hd,⟨o,es,ep,h1,h2,h3,by rw [h4];exact zx fun x hx=>axK,fun x hx=>ag4 I (e5 x hx),h5⟩,e5⟩
  . rcases g a _ e with ⟨z,_⟩ | ⟨_,xs,e3,r⟩
    . cases z
    . cases r;obtain ⟨_,hd,ws,rel,o,es,ep,h1,h2,h3,h4,_⟩:=afH I.hok e3;cases rel;exact ⟨[],by rw [e3];exact True.intro,(fun xs z=>by rw [e3] at z;cases z),(fun o u z=>by rw [e3] at z;cases z),rfl,hd,⟨o,es,ep,h1,h2,h3,h4,(fun x hx=>nomatch hx),a0a⟩,(fun x hx=>nomatch hx)⟩
theorem alE {K:Fg} {k:NK} (r:RD K H (.tup [.tup (k.1.map D.int),.int k.2]) v):∃ a,v = .ref a/\NSq K H k a:=by
  cases r with
  | @tup a zs _ hq rz _ =>
    cases rz with
    | cons ra rb =>
    cases rb with
    | cons rb rn =>
    cases rn;cases rb;cases ra with
    | @tup b ys _ hb rbs _ =>
    refine ⟨a,rfl,b,hq,?_⟩;have:=a9V rbs;rw [jm] at this;have e:ys=k.1.map V.int:=this;rw [← e];exact hb
theorem a9W {k:NK}:∀ {xs:List (NK×Addr×Value)},(atKey xs k).isSome=decide (k∈xs.map (·.1))
  | []=>by simp [atKey]
  | x :: r=>by
    have ih:=a9W (k:=k) (xs:=r);unfold atKey at ih ⊢;by_cases c:x.1=k
    . simp [c]
    . have c2:¬ k=x.1:=fun e=>c e.symm;rw [List.find?_cons_of_neg (by simp [c]),ih,iu];simp [c2]
theorem axL (hu:X.A.units+64 < cLine):pO X (compareOp .NotIn) a1Y:=a9J fun pins s σ H x y vx vy u v G R Q I rx ry ru rv g q k=>by
  unfold a1Y at q;split at q
  . rename_i ds a;split at q
    . rename_i ks e1;obtain ⟨n,rfl,q⟩:=q;cases ry;obtain rfl:v=Value.ref a:=rv;cases rx with
      | @tup b xs _ sq rb _ =>
      obtain rfl:u=Value.ref b:=ru;have:=a9V rb;subst this;obtain ⟨P,w,ys,e3,e4,e5⟩:=g a _ e1;obtain ⟨⟨hd,o,es,ep,h1,h2,h3,h4,h5⟩,_⟩:=(show dG X.prog X.w H s.heap a (.ext _) from I.hok a _ e3);have dd:s.heap.DictOfH (tupleKind (aL X.prog X.w)) a ys:=⟨o,es,ep,h1,h2,h3,by rw [h4];exact zx fun x hx=>aqA (e5 x hx).1,fun x hx=>alD I (e5 x hx).2,h5⟩;refine wpAny_notIn_heap (tupleKind_room_in1 (by omega)) (alD I sq) hd dd ?_;rw [kst_in fun x hx=>(e5 x hx).1,e4];exact ⟨.bl (!decide (n∈ks)),H,I.tok _,rfl,k _ H (.bl _) G (.refl H) (.bl _) g q⟩
    . rename_i ks e1;obtain ⟨kk,rfl,q⟩:=q;cases ry;obtain rfl:v=Value.ref a:=rv;obtain ⟨b,rfl,ns⟩:=alE rx;obtain rfl:u=Value.ref b:=ru;obtain ⟨ys,_,_,_,e4,hd,dd,_⟩:=ae3 I g (.inl e1);refine wpAny_notIn_heap (knd:=zA X.prog X.w) (by show X.A.units+1+8 < cLine;omega) (ag4 I ns) hd dd ?_;rw [a9W,e4];exact ⟨.bl (!decide (kk∈ks)),H,I.tok _,rfl,k _ H (.bl _) G (.refl H) (.bl _) g q⟩
    . rename_i e1;obtain ⟨kk,rfl,q⟩:=q;cases ry;obtain rfl:v=Value.ref a:=rv;obtain ⟨b,rfl,ns⟩:=alE rx;obtain rfl:u=Value.ref b:=ru;obtain ⟨ys,_,_,_,e4,hd,dd,_⟩:=ae3 I g (.inr ⟨e1,rfl⟩);refine wpAny_notIn_heap (knd:=zA X.prog X.w) (by show X.A.units+1+8 < cLine;omega) (ag4 I ns) hd dd ?_;rw [a9W,e4];exact ⟨.bl true,H,I.tok _,rfl,k _ H (.bl _) G (.refl H) (.bl _) g q⟩
    . exact q.elim
  . obtain ⟨a,kvs,kk,rfl,rfl,e1,_,q,dd⟩:=oE ry rx g q;obtain ⟨o,gg,eo,_⟩:=dd.any;obtain rfl:v=Value.ref a:=rv;exact aoO (by omega) I gg ru fun s' I'=>⟨.bl (!o.isSome),H,I',rfl,k _ H (.bl _) G (.refl H) (.bl _) g (by rw [eo];exact q)⟩
noncomputable def sX (x:D) (G:Gp):Prop:=match x with
  | .ref a=>(match G a with
    | some (.lX _ _)=>True
    | _=>False)
  | _=>False
theorem a8E {K:Fg} {x:D} (rx:RD K H x vx) (g:HR K H G) (h:sX x G):∃ a,x = .ref a/\vx = .ref a/\IsD H a:=by
  unfold sX at h;split at h
  . rename_i a;split at h
    . rename_i t kvs e;cases rx;rcases g a _ e with ⟨_,xs,e2,_⟩ | ⟨_,xs,e2,_⟩
      . exact ⟨a,rfl,rfl,.inl ⟨xs,.inl e2⟩⟩
      . exact ⟨a,rfl,rfl,.inr ⟨xs,.inl e2⟩⟩
    . exact h.elim
  . exact h.elim
noncomputable def a3K (to te tf:cF):cF:=fun ρ G R=>to ρ G fun x G1=>sX x G1/\te ρ G1 fun y G2=>tf ρ G2 fun z G3=>rH x y G3 fun _ _ kvs k=>R ((gR kvs k).getD z) G3
theorem aqB (hu:X.A.units+64 < cLine) (ho:cI X o to) (he:cI X e te) (hf:cI X f tf) (m:M2 X o "get" apos e f cpos):cI X (.Call (.Attribute o "get" apos) [e,f] [] cpos) (a3K to te tf):=by
  refine PE.imp (ajZ (by omega) ho he hf m) fun σ H Q h=>?_;obtain ⟨ρ,G,R,s,g,t,k⟩:=h;refine ⟨ρ,G,_,s,g,t,fun vx H1 x G1 t1 rx g1 t'=>?_⟩;obtain ⟨isd,t'⟩:=t';obtain ⟨a,rfl,rfl,ia⟩:=a8E rx g1 isd;refine ⟨a,rfl,ia,?_⟩;refine ⟨ρ,G1,_,s.mono t1,g1,t',fun vy H2 y G2 t2 ry g2 t''=>?_⟩;refine ⟨ρ,G2,_,s.mono (t1.trans t2),g2,t'',fun vz H3 z G3 t3 rz g3 t4=>?_⟩;obtain ⟨a',kvs,kk,e,_,e1,_,q,dd⟩:=oE (rx.mono (t2.trans t3)) (ry.mono t3) g3 t4;cases e;obtain ⟨o,gg,eo,hd⟩:=dd.any;exact ⟨o,gg,k _ H3 _ G3 ((t1.trans t2).trans t3) (hd z vz rz) g3 q⟩
end
end
variable {v:Value}{o:Expr}{Q:Value->Shared->Prop}{to:cF}{name:Str}{apos cpos:Pos}
section
variable {p:Addr×Value}
section
variable {prog:Program} {w:World} {K:Type} [DecidableEq K] {knd:HeapKind prog w K} {A:Around} {E:Value->Shared->Prop} {s:Shared} {d a:Addr} {k:K} {xs:List (K×Addr×Value)}
theorem axM {xs:List (K×Addr×Value)} {o:Obj} {es ep} (hkey:knd.is s.heap k a) (ho:s.heap.get? d=some o) (hc:o.ExactDict) (hd:o.data = .dict es ep) (he:es.toList=xs.map (entryOfKey knd)) (his:∀ x∈xs,knd.is s.heap x.1 x.2.1) (hn:(xs.map (·.1)).Nodup) (hno:∀ (j:Nat) (p:Addr×Value),xs[j]?≠some (k,p)) :
    (s.heap.update d (Obj.mapDictKeys (·.push ⟨knd.hash k,.ref a,v⟩))).DictOfH knd d (storedH xs k a v):=by
  have nk:k ∉ xs.map (·.1):=not_mem_keys_of_get hno;refine ⟨_,_,ep+1,yu _ ho (Obj.isFreed_of_dict (Obj.data_mapDictKeys hd _)),hc.mapDictKeys _,Obj.data_mapDictKeys hd _,?_,?_,?_⟩ <;> rw [storedH_new (atKey_none_of_get hno)]
  . simp [he,entryOfKey]
  . intro x hx;rcases qx.mp hx with hx | hx
    . exact knd.keeps (his x hx) ho hd (iy.update ..)
    . rw [kj] at hx;subst hx;exact knd.keeps hkey ho hd (iy.update ..)
  . rw [jx,xu];refine ⟨hn,by simp,fun x hx y hy e=>?_⟩;rw [List.map_singleton,kj] at hy;exact nk (by rw [← show y=k from hy,← e];exact hx)
theorem axN (hu:knd.room A) (hkey:knd.is s.heap k a) (hm:s.heap.DictOfH knd d xs) (hsz:xs.length<=sizeLine)
    (h1:∀ p,atKey xs k=some p->Q p.2 { s with toks:=s.toks+knd.draws k })
    (h2:atKey xs k=none->∀ h',h'.DictOfH knd d (storedH xs k a v)->iy d s.heap h'->Q v { s with heap:=h',toks:=s.toks+knd.draws k }):wpAny (model prog w) A (dictSetDefault d (.ref a) v) Q E s:=by
  obtain ⟨o,es,ep,ho,hc,hd,he,his,hn⟩:=hm;unfold dictSetDefault;refine wpAny_holding (aj (knd.pyHash hu hkey (aj (wpAny_dictFind_heap (s:={ s with toks:=s.toks+knd.draws k }) hu hkey ho hd he his hn ?_ ?_))))
  . intro hno;refine aj (wpAny_rule (aj (wpAny_updateDictKeys (s:={ s with toks:=s.toks+knd.draws k }) ho hd (aq (h2 (atKey_none_of_get hno) _ (axM hkey ho hc hd he his hn hno) (iy.update ..))) (hz:=by have e:=size_of_entries he;omega))))
  . intro j p hj;refine aj (wpAny_dictEntries (s:={ s with toks:=s.toks+knd.draws k }) ho hd ?_);rw [entry_at he j,hj];exact aj (wpAny_rule (aq (h1 p (atKey_of_get hn hj))))
theorem a78 (hu:knd.room A.in1) (hkey:knd.is s.heap k a) (hs:(d == sysModules)=false) (hm:s.heap.DictOfH knd d xs) (hsz:xs.length<=sizeLine)
    (h1:∀ p,atKey xs k=some p->Q p.2 { s with toks:=s.toks+knd.draws k })
    (h2:atKey xs k=none->∀ h',h'.DictOfH knd d (storedH xs k a v)->iy d s.heap h'->Q v { s with heap:=h',toks:=s.toks+knd.draws k }):wpAny (model prog w) A (call (.builtin "dict.setdefault") [.ref d,.ref a,v]) Q E s:=by
  refine call_meetsIn (S:=fun A' R s'=>knd.room A'.in1/\s'=s/\(∀ p,atKey xs k=some p->R (.ok (.ret p.2)) { s with toks:=s.toks+knd.draws k })/\(atKey xs k=none->∀ h',h'.DictOfH knd d (storedH xs k a v)->iy d s.heap h'->R (.ok (.ret v)) { s with heap:=h',toks:=s.toks+knd.draws k })) PySem.F.slot_dict_setdefault hm.typeIs PySem.F.entry_dict_setdefault (PySem.F.args_dict_setdefault_3 _ _ _) (.of_wp fun A' R s' ⟨hu',e,g1,g2⟩=>?_) ⟨hu,rfl,h1,h2⟩;subst e;unfold Builtin.«dict.setdefault»;refine aj ?_;unfold Builtin.Dict.keyAndDefault;refine aj (wpAny_notOrdered_dict hm.typeIs ?_);show wpAny _ _ (pure (d,Value.ref a,some v)) _ _ _;refine aq ?_;show wpAny _ _ (if (d == sysModules)=true then _ else (dictSetDefault d (.ref a) v >>= _)) _ _ _;rw [if_neg (by rw [hs];exact jw)];exact aj (axN hu' hkey hm hsz (fun p hp=>aq ⟨p.2,rfl,g1 p hp⟩) fun hn h' hm' hs'=>aq ⟨v,rfl,g2 hn h' hm' hs'⟩)
noncomputable def lN (xs:List (K×Addr×Value)) (k:K):List (K×Addr×Value):=xs.filter fun x=>decide (x.1≠k)
theorem abT {xs:List (K×Addr×Value)} (hn:(xs.map (·.1)).Nodup) (hj:xs[j]?=some (k,p)):lN xs k=xs.eraseIdx j:=by
  induction xs generalizing j with
  | nil=>simp at hj
  | cons x r ih =>
    rw [iu,uf] at hn;cases j with
    | zero =>
      simp at hj;subst hj
      have:∀ y∈r,decide (y.1≠k)=true:=fun y hy=>by
        simp only [decide_eq_true_eq];intro e;exact hn.1 (jc.mpr ⟨y,hy,e⟩)
      rw [lN,pq,if_neg (by simp),zy.mpr this];rfl
    | succ j =>
      have hj':r[j]?=some (k,p):=by simpa using hj
      have ne:x.1≠k:=fun e=>hn.1 (by rw [e];exact jc.mpr ⟨(k,p),jk hj',rfl⟩);have:=ih hn.2 hj';simp [lN,pq,ne] at this ⊢;exact this
theorem aqC {Q:Option DictEntry->Shared->Prop} (hu:knd.room A) (hkey:knd.is s.heap k a) (hm:s.heap.DictOfH knd d xs) (hsz:xs.length<=sizeLine) (hp:atKey xs k=some p)
    (h:∀ h' e,e.key = .ref p.1->e.val=p.2->h'.DictOfH knd d (lN xs k)->iy d s.heap h'->Q (some e) { s with heap:=h',toks:=s.toks+knd.draws k }):wpAny (model prog w) A (Builtin.Dict.takeOut d (.ref a)) Q E s:=by
  obtain ⟨o,es,ep,ho,hc,hd,he,his,hn⟩:=hm;unfold Builtin.Dict.takeOut;refine wpAny_holding (aj (knd.pyHash hu hkey (aj (wpAny_dictFind_heap (s:={ s with toks:=s.toks+knd.draws k }) hu hkey ho hd he his hn ?_ ?_))))
  . intro hno;rw [atKey_none_of_get hno] at hp;cases hp
  . intro j q hj;rw [atKey_of_get hn hj] at hp;cases hp;refine aj (wpAny_dictEntries (s:={ s with toks:=s.toks+knd.draws k }) ho hd ?_);rw [entry_at he j,hj];refine aj (wpAny_updateDictKeys (s:={ s with toks:=s.toks+knd.draws k }) ho hd (aq (h _ _ rfl rfl ⟨_,_,ep+1,yu _ ho (Obj.isFreed_of_dict (Obj.data_mapDictKeys hd _)),hc.mapDictKeys _,Obj.data_mapDictKeys hd _,?_,?_,?_⟩ (iy.update ..))) (hz:=by have e:=size_of_entries he;omega) (hf:=?_))
    . rw [abT hn hj];have hjl:j < es.size:=by rw [size_of_entries he];exact (cj.mp hj).1
      have em:∀ (l:List (K×Addr×Value)) (j:Nat),(l.map (entryOfKey knd)).eraseIdx j=(l.eraseIdx j).map (entryOfKey knd):=by
        intro l
        induction l with
        | nil=>intro j;rfl
        | cons x r ih=>intro j;cases j with
          | zero=>rfl
          | succ j=>simp [ih]
      simp [Array.eraseIdxIfInBounds,hjl,he,em]
    . intro x hx;exact knd.keeps (his x (vp.mp hx).1) ho hd (iy.update ..)
    . exact (List.filter_sublist.map _).nodup hn
    . show (es.eraseIdxIfInBounds j).size<=es.size+1;unfold Array.eraseIdxIfInBounds;split <;> simp <;> omega
theorem axO (hu:knd.room A.in1) (hkey:knd.is s.heap k a) (hm:s.heap.DictOfH knd d xs) (hsz:xs.length<=sizeLine) (hp:atKey xs k=some p)
    (h:∀ h',h'.DictOfH knd d (lN xs k)->iy d s.heap h'->Q p.2 { s with heap:=h',toks:=s.toks+knd.draws k }):wpAny (model prog w) A (call (.builtin "dict.pop") [.ref d,.ref a]) Q E s:=by
  refine call_meetsIn (S:=fun A' R s'=>knd.room A'.in1/\s'=s/\∀ h',h'.DictOfH knd d (lN xs k)->iy d s.heap h'->R (.ok (.ret p.2)) { s with heap:=h',toks:=s.toks+knd.draws k }) PySem.F.slot_dict_pop hm.typeIs PySem.F.entry_dict_pop (PySem.F.args_dict_pop_2 _ _) (.of_wp fun A' R s' ⟨hu',e,g⟩=>?_) ⟨hu,rfl,h⟩;subst e;have hne:xs≠[]:=fun e=>by subst e;cases hp
  obtain ⟨o,es,ep,ho,hc,hd,he,his,hn⟩:=id hm;unfold Builtin.«dict.pop»;refine aj ?_;unfold Builtin.Dict.keyAndDefault;refine aj (wpAny_notOrdered_dict hm.typeIs ?_);show wpAny _ _ (pure (d,Value.ref a,none)) _ _ _;refine aq ?_
  have e0:es.isEmpty=false:=by
    have:=size_of_entries he;rw [Array.isEmpty_eq_false_iff];intro z;subst z;exact hne (List.length_eq_zero_iff.mp this.symm)
  show wpAny _ _ (dictEntries d >>= _) _ _ _;refine aj (wpAny_dictEntries ho hd ?_);rw [e0];refine aj (aq ?_);show wpAny _ _ (Builtin.Dict.takeOut d (Value.ref a) >>= _) _ _ _;refine aj (aqC hu' hkey hm hsz hp fun h' e e1 e2 dd hs=>?_);refine aj (wpAny_letGo (aq ⟨_,rfl,?_⟩));rw [e2];exact g h' dd hs
end
theorem KT.drop {kvs:List (List Key×V)} {xs:List (List Key×Addr×Value)} (r:KT H kvs xs) (k:List Key):KT H (uM kvs k) (lN xs k):=by
  unfold uM lN
  induction r with
  | nil=>exact .nil
  | @cons p q ps qs h t ih =>
    rw [pq,pq];by_cases e:p.1=k
    . rw [if_neg (by simp [e]),if_neg (by simp [h.1.symm.trans e])];exact ih
    . rw [if_pos (by simp [e]),if_pos (by simp;exact fun z=>e (h.1.trans z))];exact .cons h ih
theorem a0F {κ:Type} [DecidableEq κ] {K:Fg} {H:Hp} {f:κ->DK} (hf:∀ a b,f a=f b->a=b) {k:κ}:∀ {kvs:List (DK×D)} {xs:List (κ×V)},a0E K H f kvs xs->a0E K H f (al9 kvs (f k)) (uM xs k)
  | _,_,.nil => .nil
  | p :: kvs,q :: xs,.cons h r=>by
    unfold al9 uM;rw [pq,pq];by_cases c:q.1=k
    . rw [if_neg (by simp [show p.1=f k by rw [h.1,c]]),if_neg (by simp [c])];exact a0F hf r
    . rw [if_pos (by simp;exact fun z=>c (hf _ _ (h.1.symm.trans z))),if_pos (by simp [c])];exact .cons h (a0F hf r)
noncomputable def alF (r:RM3) (to:cF) (t:pL):cF:=fun ρ G R=>to ρ G fun x G1=>sX x G1/\t ρ G1 fun xs G2=>r x xs G2 R
section
variable {X:Cx}
theorem axP {t:pL} {id:String} {r3:RM3} (slot:Slot "dict" name id) (hty:typeOf (.builtin id)=pure (.type "method_descriptor")) (hm:vW X id r3) (ho:cI X o to) (ha:PA3 X (e :: es) t)
    (hbase:attributeBase o name X.env (eval o X.env)=eval o X.env)
    (hfew:((backTo cpos (starEach (e :: es) X.env)).all (fun x=>!x.1)&&(backToKw cpos (keywordEach [] X.env)).all (fun x=>x.1.isSome)
      && decide ((e :: es).length+([]:List Keyword).length+(if ([]:List Keyword).isEmpty then 0 else 1) < 30))=true)
    (hline:(apos.endLine == cpos.line)=true) (hs:starEach (e :: es) X.env=(false,eval e X.env) :: starEach es X.env) (hplain:(backTo cpos (starEach es X.env)).any (·.1)=false) :
    cI X (.Call (.Attribute o name apos) (e :: es) [] cpos) (alF r3 to t):=by
  intro pins s σ H Q I h _tk;obtain ⟨ρ,G,R,sr,g,q,kk⟩:=h;refine wpAny_Call_method_late hbase hfew hline rfl (cR (ho pins s σ H (fun vx H1=>Ts H H1/\∃ x G1,RD X.K H1 x vx/\HR X.K H1 G1/\sX x G1/\t ρ G1 fun xs G2=>r3 x xs G2 R) I ⟨ρ,G,_,sr,g,q,fun v H1 x G1 t1 r1 g1 q1=>⟨t1,x,G1,r1,g1,q1⟩⟩) fun v s1 ⟨vx,H1,I1,r1,t1,x,G1,rx,g1,ty,q1⟩=>?_);obtain ⟨a,rfl,rfl,ia⟩:=a8E rx g1 ty;obtain rfl:v=Value.ref a:=r1;obtain ⟨h1,h2,_⟩:=ajY I1 ia;refine ⟨"dict",id,PySem.F.plainAttrs_dict,slot,hty,h1,h2,?_⟩;have hA:=ha cpos pins s1 σ H1 (fun vs H2=>Ts H1 H2/\∃ xs G2,bR X.K H2 xs vs/\HR X.K H2 G2/\r3 (.ref a) xs G2 R) I1 ⟨ρ,G1,_,sr.mono t1,g1,q1,fun vs H2 xs G2 t2 r2 g2 q2=>⟨t2,xs,G2,r2,g2,q2⟩⟩;rw [hs] at hA ⊢;refine Calls.callWith_builtin (by show (false || (backTo cpos (starEach es X.env)).any (·.1))=false;rw [hplain] <;> rfl) (Calls.evalArgs_plain ?_);exact cR hA fun us s2 ⟨vs,H2,I2,r2,t2,xs,G2,rs,g2,q2⟩=>hm pins s2 σ H2 (.ref a) xs (.ref a) vs (.ref a) us G2 R Q I2 (.ref a) rs rfl r2 g2 q2 fun v H' d G' t3=>kk v H' d G' ((t1.trans t2).trans t3)
noncomputable def alG:RM3:=fun x xs G R=>match xs with
  | [y,z]=>rH x y G fun a t kvs k=>t=true/\kvs.length < sizeLine/\(match gR kvs k with
    | some d=>R d G
    | none=>R z (aM G a (.lX t (a5A kvs k z))))
  | _=>False
theorem aD2 (hu:X.A.units+64 < cLine):vW X "dict.setdefault" alG:=by
  intro pins s σ H x xs vx vs u us G R Q I rx rs ru rv g q k;unfold alG at q;split at q
  case h_2=>exact q.elim
  case h_1 y z =>
    cases rs with
    | cons ry rs =>
    cases rs with
    | @cons _ vz _ _ rz rs =>
    cases rs;cases rv with
    | cons rvy rv =>
    cases rv with
    | cons rvz rv =>
    cases rv;obtain ⟨a,kvs,kk,rfl,rfl,e1,_,⟨ht,hl,q⟩,dd⟩:=oE rx ry g q;obtain rfl:u=Value.ref a:=ru;rcases dd with ⟨k',ys,rfl,_⟩ | ⟨ks,ys,b,rfl,e,r,rfl,eb⟩
    . cases ht
    . cases rvy;obtain ⟨z1,hd,ws,rel,dc⟩:=afH I.hok e;have hw:=val_two sW (k:=ks) r;have hv:=rel.val ks;have lw:ws.length<=sizeLine:=by rw [← Paired.length rel];exact z1
      refine a78 (tupleKind_room_in1 (by omega)) (vJ I.hok eb) hd dc lw (fun p hp=>?_) fun hn h' dc' hs=>?_
      . rw [hp] at hv;cases e2:gR kvs (.inr ks) with
        | none=>rw [hw.2 e2] at hv;exact (show False from hv).elim
        | some d =>
          rw [e2] at q;obtain ⟨v,e3,rd⟩:=hw.1 d e2;rw [e3] at hv;exact ⟨v,H,I.tok _,hv,k v H d G (.refl H) rd g q⟩
      . rw [hn] at hv;cases e2:gR kvs (.inr ks) with
        | some d =>
          obtain ⟨v,e3,rd⟩:=hw.1 d e2;rw [e3] at hv;exact (show False from hv).elim
        | none =>
          rw [e2] at q;have tt:Ts H (upd H a (.dT (putK ys ks vz))) := .turn e (fun _ z=>nomatch z) (fun _ _ z=>nomatch z);obtain ⟨q0,es,ep,hq,g2,g3,g4,_,g5⟩:=dc';have hl2:∀ v:V,(putK ys ks v).length<=sizeLine:=fun v=>by have:=pP ys ks v;rw [← r.length] at this;omega
          refine ⟨_,_,pQ (t':=_) (ob := .dT (putK ys ks vz)) I (by rw [e];exact True.intro) hs ⟨q0,hq⟩ ⟨hl2 _,hd,_,(rel.put ks eb rvz).keeps fun c zs ec=>?_,q0,es,ep,hq,g2,g3,g4,g5⟩,rvz,k _ _ z _ tt (rz.mono tt) (g.turn (u := .lX true _) tt (.inr ⟨rfl,_,aF,(a3J sW rz r).imp fun _ _ q=>⟨q.1,q.2.mono tt⟩⟩)) q⟩;rw [aJ (nR ec e (fun z=>nomatch z))];exact ec
noncomputable def alH:RM3:=fun x xs G R=>match xs with
  | [y]=>rH x y G fun a t kvs k=>(match gR kvs k with
    | some d=>R d (aM G a (.lX t (al9 kvs k)))
    | none=>False)
  | _=>False
theorem axQ (hu:X.A.units+64 < cLine):vW X "dict.pop" alH:=by
  intro pins s σ H x xs vx vs u us G R Q I rx rs ru rv g q k
  match xs,rs,q with
  | [],_,q=>exact q.elim
  | _ :: _ :: _,_,q=>exact q.elim
  | [y],.cons ry .nil,q =>
    cases rv with
    | cons rvy rv =>
    cases rv;obtain ⟨a,kvs,kk,rfl,rfl,e1,_,q,dd⟩:=oE rx ry g q;obtain rfl:u=Value.ref a:=ru;split at q
    . rename_i d e2;rcases dd with ⟨k',ys,rfl,e,r,rfl⟩ | ⟨ks,ys,b,rfl,e,r,rfl,eb⟩
      . obtain ⟨v,e3,rd⟩:=(val_two sV (k:=k') r).1 d e2;have tt:Ts H (upd H a (.dK (uM ys k'))) := .turn e (fun _ z=>nomatch z) (fun _ _ z=>nomatch z);exact aB4 I e rvy e3 (.inl rfl) fun w' s' I' rw'=>⟨v,_,I',rw',k v _ d _ tt (rd.mono tt) (g.turn (u := .lX false _) tt (.inl ⟨rfl,_,aF,(a0F sV r).imp fun _ _ q=>⟨q.1,q.2.mono tt⟩⟩)) q⟩
      . obtain ⟨v,e3,rd⟩:=(val_two sW (k:=ks) r).1 d e2;cases rvy;obtain ⟨z1,hd,ws,rel,dc⟩:=afH I.hok e;have hv:=rel.val ks;rw [e3] at hv;have lw:ws.length<=sizeLine:=by rw [← Paired.length rel];exact z1
        cases hp:atKey ws ks with
        | none=>rw [hp] at hv;exact (show False from hv).elim
        | some p =>
          rw [hp] at hv;have tt:Ts H (upd H a (.dT (uM ys ks))) := .turn e (fun _ z=>nomatch z) (fun _ _ z=>nomatch z);refine axO (tupleKind_room_in1 (by omega)) (vJ I.hok eb) dc lw hp fun h' dc' hs=>?_;obtain ⟨q0,es,ep,hq,g2,g3,g4,_,g5⟩:=dc';refine ⟨v,_,pQ (t':=_) (ob := .dT (uM ys ks)) I (by rw [e];exact True.intro) hs ⟨q0,hq⟩ ⟨jd (a4C ys ks) z1,hd,_,(rel.drop ks).keeps fun c zs ec=>?_,q0,es,ep,hq,g2,g3,g4,g5⟩,hv,k v _ d _ tt (rd.mono tt) (g.turn (u := .lX true _) tt (.inr ⟨rfl,_,aF,(a0F sW r).imp fun _ _ q=>⟨q.1,q.2.mono tt⟩⟩)) q⟩;rw [aJ (nR ec e (fun z=>nomatch z))];exact ec
    . exact q.elim
end
end
variable {p:Array Nat}
section
open PySem.W
section
variable {cmp:Nat->Nat->(Bool->Shared->Prop)->Shared->Prop} {I:Shared->Prop} {kf:Nat->Int}
noncomputable def ky (kf:Nat->Int) (p:Array Nat) (i:Nat):Int:=kf (p.getD i 0)
noncomputable def Up (kf:Nat->Int) (p:Array Nat) (k:Nat):Prop:=∀ i j,i<=j->j < k->ky kf p i<=ky kf p j
noncomputable def Down (kf:Nat->Int) (p:Array Nat) (k:Nat):Prop:=∀ i j,i < j->j < k->ky kf p j < ky kf p i
noncomputable def Asks (cmp:Nat->Nat->(Bool->Shared->Prop)->Shared->Prop) (I:Shared->Prop) (kf:Nat->Int) (n:Nat):Prop:=∀ i j C s,i < n->j < n->I s->(∀ s',I s'->C (decide (kf i < kf j)) s')->cmp i j C s
structure Pm (n:Nat) (p:Array Nat):Prop where
  size:p.size=n
  perm:p.toList.Perm (gk n)
theorem Pm.lt (h:Pm n p) (hi:i < n):p.getD i 0 < n:=by
  have hs:i < p.size:=by rw [h.size];exact hi
  have e:p.getD i 0=p[i]:=by simp [Array.getD,hs]
  rw [e];exact ni.mp (h.perm.mem_iff.mp (by simp))
theorem Pm.inj (h:Pm n p) (hi:i < n) (hj:j < n) (e:p.getD i 0=p.getD j 0):i=j:=by
  have hs:i < p.size:=by rw [h.size];exact hi
  have ht:j < p.size:=by rw [h.size];exact hj
  have nd:p.toList.Nodup:=(h.perm.nodup_iff).mpr List.nodup_range;have e1:p.getD i 0=p[i]:=by simp [Array.getD,hs]
  have e2:p.getD j 0=p[j]:=by simp [Array.getD,ht]
  rw [e1,e2] at e;have key:=qw.mp nd;have hs':i < p.toList.length:=by simpa using hs
  have ht':j < p.toList.length:=by simpa using ht
  rcases yc i j with c | c | c
  . exact absurd (by simpa using e) (key i j hs' ht' c)
  . exact c
  . exact absurd (by simpa using e.symm) (key j i ht' hs' c)
theorem a3L {q:Array Nat} (h:p[i]?=q[j]?):p.getD i 0=q.getD j 0:=by
  rw [Array.getD_eq_getD_getElem?,Array.getD_eq_getD_getElem?,h]
theorem alI {k:Nat} (hn:n<=p.size) (hk:k < n):ky kf (kas_rev p 0 n) k=ky kf p (n - 1 - k):=by
  unfold ky kas_rev;have e:=getElem?_mirror_all (xs:=p) (i:=0) (j:=n) hn k;rw [if_pos ⟨oh _,hk⟩,Nat.zero_add] at e;rw [a3L e]
theorem Pm.rev {m:Nat} (h:Pm n p):Pm n (kas_rev p 0 m):=⟨by rw [kas_rev_size];exact h.size,((mirror_perm p 0 m _).toList).trans h.perm⟩
theorem Down.up (hn:n<=p.size) (h:Down kf p n):Up kf (kas_rev p 0 n) n:=fun i j hij hj=>by
  rw [alI hn (by omega),alI hn hj];by_cases c:i=j
  . subst c;exact yp _
  . exact Int.le_of_lt (h (n - 1 - j) (n - 1 - i) (by omega) (by omega))
theorem ae4 {n:Nat} (hc:Asks cmp I kf n) {p:Array Nat} (P:Pm n p) {Q:Nat->Shared->Prop}:∀ (f a:Nat) (s:Shared),1<=a->a+f<=n->Up kf p a->I s->(∀ m s',a<=m->m<=a+f->Up kf p m->(m < a+f->ky kf p m < ky kf p (m - 1))->I s'->Q m s')->(kas_asc p f a).kasWp cmp Q s
  | 0,a,s,h1,h2,u,i,h=>h a s (bw _) (bw _) u (fun z=>absurd z (mj _)) i
  | f+1,a,s,h1,h2,u,i,h=>by
    show cmp (p.getD a 0) (p.getD (a - 1) 0) _ s;refine hc _ _ _ s (P.lt (by omega)) (P.lt (by omega)) i fun s' i'=>?_;by_cases c:kf (p.getD a 0) < kf (p.getD (a - 1) 0)
    . rw [decide_eq_true c];dsimp only;rw [if_pos rfl];exact h a s' (bw _) (by omega) u (fun _=>c) i'
    . rw [decide_eq_false c];dsimp only;rw [if_neg (by decide)];refine ae4 hc P f (a+1) s' (by omega) (by omega) (fun x y hxy hy=>?_) i' fun m s2 l1 l2 u2 l3 i2=>h m s2 (by omega) (by omega) u2 (fun z=>l3 (by omega)) i2;by_cases cy:y < a
      . exact u x y hxy cy
      . have ey:y=a:=by omega
        subst ey;by_cases cx:x=y
        . subst cx;exact yp _
        . have:=u x (y - 1) (by omega) (by omega);have c':ky kf p (y - 1)<=ky kf p y:=by unfold ky;omega
          omega
theorem ag5 {n:Nat} (hc:Asks cmp I kf n) (hd:∀ i j,i < n->j < n->kf i=kf j->i=j) {p:Array Nat} (P:Pm n p) {Q:Array Nat×Nat×Nat->Shared->Prop}:∀ (f a:Nat) (s:Shared),2<=a->a+f<=n->Down kf p a->I s->(∀ m s',a<=m->m<=a+f->Down kf p m->I s'->Q (p,m,0) s')->(kas_desc f p a 0).kasWp cmp Q s
  | 0,a,s,h1,h2,u,i,h=>h a s (bw _) (bw _) u i
  | f+1,a,s,h1,h2,u,i,h=>by
    show cmp (p.getD a 0) (p.getD (a - 1) 0) _ s;refine hc _ _ _ s (P.lt (by omega)) (P.lt (by omega)) i fun s' i'=>?_;by_cases c:kf (p.getD a 0) < kf (p.getD (a - 1) 0)
    . rw [decide_eq_true c];dsimp only;rw [if_pos rfl,if_neg (by omega)];refine ag5 hc hd P f (a+1) s' (by omega) (by omega) (fun x y hxy hy=>?_) i' fun m s2 l1 l2 u2 i2=>h m s2 (by omega) (by omega) u2 i2;by_cases cy:y < a
      . exact u x y hxy cy
      . have ey:y=a:=by omega
        subst ey;have c':ky kf p y < ky kf p (y - 1):=c;by_cases cx:x=y - 1
        . subst cx;exact c'
        . have:=u x (y - 1) (by omega) (by omega);omega
    . rw [decide_eq_false c];dsimp only;rw [if_neg (by decide)];show cmp (p.getD (a - 1) 0) (p.getD a 0) _ s';refine hc _ _ _ s' (P.lt (by omega)) (P.lt (by omega)) i' fun s2 i2=>?_
      have ne:kf (p.getD a 0)≠kf (p.getD (a - 1) 0):=fun z=>by
        have:=P.inj (i:=a) (j:=a - 1) (by omega) (by omega) (hd _ _ (P.lt (by omega)) (P.lt (by omega)) z);omega
      rw [decide_eq_true (show kf (p.getD (a - 1) 0) < kf (p.getD a 0) by omega)];dsimp only;rw [if_pos rfl];exact h a s2 (bw _) (by omega) u i2
theorem alJ (hc:Asks cmp I kf n) (hd:∀ i j,i < n->j < n->kf i=kf j->i=j) (h2:2<=n) (P:Pm n p) {Q:Nat×Array Nat->Shared->Prop} (i:I s) (h:∀ m q s',1<=m->m<=n->Pm n q->Up kf q m->I s'->Q (m,q) s'):(kas_count n p).kasWp cmp Q s:=by
  unfold kas_count;rw [KasT.kasWp_bind];refine ae4 hc P (n - 1) 1 s (bw _) (by omega) (fun x y hxy hy=>by have:x=y:=(by omega);subst this;exact yp _) i fun m s' l1 l2 u l3 i'=>?_;by_cases c:m=n
  . subst c;rw [if_pos (by simp)];exact h m p s' l1 (by omega) P u i'
  . rw [if_neg (by simpa using c)];by_cases c1:m > 1
    . rw [if_pos c1];show cmp (p.getD 0 0) (p.getD (m - 1) 0) _ s';refine hc _ _ _ s' (P.lt (by omega)) (P.lt (by omega)) i' fun s2 i2=>?_
      have ne:kf (p.getD 0 0)≠kf (p.getD (m - 1) 0):=fun z=>by
        have:=P.inj (i:=0) (j:=m - 1) (by omega) (by omega) (hd _ _ (P.lt (by omega)) (P.lt (by omega)) z);omega
      have le:ky kf p 0<=ky kf p (m - 1):=u 0 (m - 1) (by omega) (by omega);unfold ky at le;rw [decide_eq_true (show kf (p.getD 0 0) < kf (p.getD (m - 1) 0) by omega)];dsimp only;rw [if_pos rfl];exact h m p s2 l1 (by omega) P u i2
    . rw [if_neg c1];have e1:m=1:=by omega
      subst e1;unfold kas_descPart;rw [KasT.kasWp_bind];refine ag5 hc hd P (n - (1+1)) (1+1) s' (by omega) (by omega) (fun x y hxy hy=>?_) i' fun m s2 k1 k2 dn i2=>?_
      . have ex:x=0:=by omega
        have ey:y=1:=by omega
        subst ex;subst ey;exact l3 (by omega)
      . dsimp only;rw [if_neg (by omega)];unfold kas_tail3;rw [KasT.kasWp_bind];refine ae4 hc (P.rev (m:=m)) (n - m) m s2 (by omega) (by omega) (dn.up (by rw [P.size];omega)) i2 fun k s3 q1 q2 u3 _ i3=>h k _ s3 (by omega) (by omega) P.rev u3 i3
theorem a5C {n:Nat} (hc:Asks cmp I kf n) {p:Array Nat} (P:Pm n p) {k:Nat} (hk:k < n) (u:Up kf p k) {Q:Nat->Shared->Prop}:∀ (f l r:Nat) (s:Shared),l<=r->r<=k->r - l<=f->(∀ x,x < l->ky kf p x<=ky kf p k)->(∀ x,r<=x->x < k->ky kf p k < ky kf p x)->I s ->
      (∀ m s',m<=k->(∀ x,x < m->ky kf p x<=ky kf p k)->(∀ x,m<=x->x < k->ky kf p k < ky kf p x)->I s'->Q m s')->(kas_place p k f l r).kasWp cmp Q s
  | 0,l,r,s,h1,h2,h3,a,b,i,h=>h l s (by omega) a (fun x hx=>b x (by omega)) i
  | f+1,l,r,s,h1,h2,h3,a,b,i,h=>by
    unfold kas_place;by_cases c0:l≥r
    . rw [if_pos c0];exact h l s (by omega) a (fun x hx=>b x (by omega)) i
    . rw [if_neg c0];show cmp (p.getD k 0) (p.getD ((l+r) / 2) 0) _ s;refine hc _ _ _ s (P.lt (by omega)) (P.lt (by omega)) i fun s' i'=>?_;by_cases c:kf (p.getD k 0) < kf (p.getD ((l+r) / 2) 0)
      . rw [decide_eq_true c];dsimp only;rw [if_pos rfl];refine a5C hc P hk u f l ((l+r) / 2) s' (by omega) (by omega) (by omega) a (fun x hx hxk=>?_) i' h;have:=u ((l+r) / 2) x hx hxk;have c':ky kf p k < ky kf p ((l+r) / 2):=c;omega
      . rw [decide_eq_false c];dsimp only;rw [if_neg (by decide)];refine a5C hc P hk u f ((l+r) / 2+1) r s' (by omega) (by omega) (by omega) (fun x hx=>?_) b i' h;have:=u x ((l+r) / 2) (by omega) (by omega);have c':ky kf p ((l+r) / 2)<=ky kf p k:=by unfold ky;omega
        omega
theorem alK {n:Nat} (hc:Asks cmp I kf n) {Q:Array Nat->Shared->Prop}:∀ (f k:Nat) (p:Array Nat) (s:Shared),Pm n p->1<=k->k+f=n->Up kf p k->I s->(∀ q s',Pm n q->Up kf q n->I s'->Q q s')->(kas_bin f p k).kasWp cmp Q s
  | 0,k,p,s,P,h1,h2,u,i,h=>h p s P (by rw [← h2];exact u) i
  | f+1,k,p,s,P,h1,h2,u,i,h=>by
    unfold kas_bin;rw [KasT.kasWp_bind];refine a5C hc P (by omega) u k 0 k s (oh _) (bw _) (by omega) (fun x hx=>absurd hx (Nat.not_lt_zero _)) (fun x hx hk=>absurd hx (by omega)) i fun m s' l1 a b i'=>?_;have hs:k < p.size:=by rw [P.size];omega
    refine alK hc f (k+1) _ s' ⟨by rw [bubble_size];exact P.size,((bubble_perm p k _).toList).trans P.perm⟩ (by omega) (by omega) (fun x y hxy hy=>?_) i' h
    have e:∀ z,ky kf (bubble p k (k - m)) z=if z=m then ky kf p k else if m < z/\z<=k then ky kf p (z - 1) else ky kf p z:=fun z=>by
      have e:=getElem?_bubble hs (k - m) (by omega) z;rw [show k - (k - m)=m by omega] at e;by_cases c:z=m
      . rw [if_pos c] at e ⊢;exact congrArg kf (a3L e)
      . rw [if_neg c] at e ⊢;by_cases c2:m < z/\z<=k
        . rw [if_pos c2] at e ⊢;exact congrArg kf (a3L e)
        . rw [if_neg c2] at e ⊢;exact congrArg kf (a3L e)
    have e1:ky kf (bubble p k (k - m)) m=ky kf p k:=by rw [e,if_pos rfl]
    have e2:∀ z,m < z->z<=k->ky kf (bubble p k (k - m)) z=ky kf p (z - 1):=fun z h1 h2=>by rw [e,if_neg (by omega),if_pos ⟨h1,h2⟩]
    have e3:∀ z,z < m->ky kf (bubble p k (k - m)) z=ky kf p z:=fun z h1=>by rw [e,if_neg (by omega),if_neg (by omega)]
    rcases yc x m with c | c | c
    . rw [e3 x c];rcases yc y m with d | d | d
      . rw [e3 y d];exact u x y hxy (by omega)
      . rw [d,e1];exact a x c
      . rw [e2 y d (by omega)];exact u x (y - 1) (by omega) (by omega)
    . rw [c,e1];by_cases d:y=m
      . rw [d,e1];exact yp _
      . rw [e2 y (by omega) (by omega)];exact Int.le_of_lt (b (y - 1) (by omega) (by omega))
    . rw [e2 x c (by omega),e2 y (by omega) (by omega)];exact u (x - 1) (y - 1) (by omega) (by omega)
theorem aqD (hc:Asks cmp I kf n) (hd:∀ i j,i < n->j < n->kf i=kf j->i=j) (h2:2<=n) {Q:Array Nat->Shared->Prop} (i:I s) (h:∀ q s',Pm n q->Up kf q n->I s'->Q q s'):(kas_sort n).kasWp cmp Q s:=by
  unfold kas_sort;rw [KasT.kasWp_bind];refine alJ hc hd h2 ⟨by simp,by simp⟩ i fun m q s' l1 l2 P u i'=>?_;dsimp only;by_cases c:m < n
  . rw [if_pos c];have e:max m 1=m:=by omega
    rw [e];exact alK hc (n - m) m q s' P l1 (by omega) u i' h
  . rw [if_neg c];have:m=n:=by omega
    subst this;exact h q s' P u i'
end
section
variable {prog:Program} {w:World} {A:Around} {E:Value->Shared->Prop} {s:Shared}
end
noncomputable def aD4 (a b:Int×Int):Prop:=a.1 < b.1∨(a.1=b.1/\a.2 < b.2)
instance (a b:Int×Int):Decidable (aD4 a b):=by unfold aD4;infer_instance
section
variable {prog:Program} {w:World} {A:Around} {E:Value->Shared->Prop} {s:Shared}
end
end
section
open PySem.W
theorem getD_at {α:Type} {l:List α} {d:α} (h:i < l.length):l.getD i d=l[i]:=by simp [ud,h]
section
variable {X:Cx}
theorem a8F {xs:List V} {us:List Value} (r:Vals xs us):∀ {l:List Nat},(∀ i∈l,i < xs.length)->Vals (l.map fun i=>xs.getD i .non) (l.map fun i=>us.getD i Value.none)
  | [],_ => .nil
  | i :: l,h=>by
    have hi:=h i (by simp);obtain ⟨u,e1,ru⟩:=r.get (dh hi);have e2:xs.getD i .non=xs[i]:=by simp [ud,hi]
    have e3:us.getD i Value.none=u:=by simp [ud,e1]
    refine .cons ?_ (a8F r fun j hj=>h j (by simp [hj]));show RelV (xs.getD i .non) (us.getD i Value.none);rw [e2,e3];exact ru
end
end
variable {h:Heap}
section
open PySem.W
noncomputable def a5D (h:Heap) (d:Addr) (es:Array DictEntry) (ep:Nat):Prop:=∃ o,h.get? d=some o/\o.ExactDict/\o.data = .dict es ep
section
variable {prog:Program} {w:World} {A:Around} {E:Value->Shared->Prop} {s:Shared} {d it:Addr} {es:Array DictEntry} {ep i:Nat}
theorem a5D.typeIs (hm:a5D s.heap d es ep):s.TypeIs (.ref d) "dict" := let ⟨o,ho,hc,_⟩:=hm;⟨o,ho,hc.1⟩
theorem a5D.lt (hm:a5D h d es ep):d < h.objs.size:=let ⟨_,ho,_⟩:=hm;cu ho
theorem a5D.at (hm:a5D h d es ep) (k:∀ o,h.get? d=some o->h'.get? d=some o):a5D h' d es ep:=let ⟨o,ho,r⟩:=hm;⟨o,k o ho,r⟩
end
end
section
open PySem.W
section
variable {X:Cx} {tg:Expr}
end
section
variable {X:Cx} {tg:Expr}
end
end
section
open PySem.W
section
variable {prog:Program} {w:World} {A:Around} {E:Value->Shared->Prop} {s:Shared}
noncomputable abbrev TK (prog:Program) (w:World):=tupleKind (aL prog w)
noncomputable def aD5 (prog:Program) (w:World) (h:Heap) (v:Value) (x:List Key×Addr×Value):Prop:=∃ p o n,v = .ref p/\h.get? p=some o/\o.cls = .type "tuple" /\ o.data = .seq #[.ref x.2.1,x.2.2] n/\(TK prog w).is h x.1 x.2.1
theorem ag6 (x:(TK prog w).is h ks a) (k:∀ o,h.get? a=some o->h'.get? a=some o):(TK prog w).is h' ks a:=by
  obtain ⟨o,its,n,h1,r⟩:=x;exact ⟨o,its,n,k _ h1,r⟩
noncomputable def aqE (prog:Program) (w:World) (I d:Addr) (h:Heap) (v:Value) (x:List Key×Addr×Value):Prop:=∃ p o n,v = .ref p/\h.get? p=some o/\o.cls = .type "tuple" /\ o.data = .seq #[.ref x.2.1,x.2.2] n/\(TK prog w).is h x.1 x.2.1/\p≠I/\p≠d/\x.2.1≠I/\x.2.1≠d
theorem aqE.keep {I d:Addr} (q:aqE prog w I d h v x) (k:∀ b o,b≠d->b≠I->h.get? b=some o->h'.get? b=some o):aqE prog w I d h' v x:=by
  obtain ⟨p,o,n,e,h1,h2,h3,h4,h5,h6,h7,h8⟩:=q;exact ⟨p,o,n,e,k _ _ h6 h5 h1,h2,h3,ag6 h4 fun o e=>k _ _ h8 h7 e,h5,h6,h7,h8⟩
theorem aD5.ok {I d:Addr} (q:aD5 prog w h v x) (hI:h.objs.size<=I) (hd:h.objs.size<=d) (k:∀ b o,h.get? b=some o->h'.get? b=some o):aqE prog w I d h' v x:=by
  obtain ⟨p,o,n,e,h1,h2,h3,h4⟩:=q;have l1:=cu h1
  have l2:x.2.1 < h.objs.size:=by
    obtain ⟨o2,its,n2,z,_⟩:=id h4;exact cu z
  exact ⟨p,o,n,e,k _ _ h1,h2,h3,ag6 h4 fun o e=>k _ _ e,dw (dg l1 hI),dw (dg l1 hd),dw (dg l2 hI),dw (dg l2 hd)⟩
end
end
section
open PySem.W
inductive Prs (K:Fg) (H:Hp):List (List Key×D)->List (List Key×Addr×Value)->Prop where
  | nil:Prs K H [] []
  | cons {ks:List Key} {b:Addr} {vz:V} {u:Value} {d:D} {kvs:List (List Key×D)} {ps:List (List Key×Addr×Value)}:H b=some (.tup (ks.map kV))->RD K H d vz->RelV vz u->Prs K H kvs ps->Prs K H ((ks,d) :: kvs) ((ks,b,u) :: ps)
theorem Prs.len {K:Fg} {kvs:List (List Key×D)} {ps:List (List Key×Addr×Value)} (h:Prs K H kvs ps):kvs.length=ps.length:=by
  induction h with
  | nil=>rfl
  | cons _ _ _ _ ih=>simp [ih]
section
variable {X:Cx}
end
end
section
section
variable {X:Cx} {pins:List (Addr×Obj)} {σ:St} {H:Hp} {s:Shared} {i:Nat} {nm:Str}
end
end
section
open PySem.W
section
variable {prog:Program} {w:World} {A:Around} {E:Value->Shared->Prop} {s:Shared}
end
section
variable {X:Cx}
end
end
section
open Builtin.Str
section
variable {prog:Program} {w:World} {A:Around} {E:Value->Shared->Prop} {s:Shared}
theorem aqF {x:Str} {t u:Tok} (hy:(y.length == 0)=false) (hsz:x.length+2<=sizeLine)
    (h:∀ l k,l.map (·.1)=Txt.split x y->Q (.ref s.heap.objs.size) { s with heap:=s.heap.push { cls := .type "list",data := .seq (strValues l).toArray },toks:=k }):wpAny (model prog w) A (call (.builtin "str.split") [.str x t,.str y u]) Q E s:=by
  have hn:(partsBetween x (occurrences x y 0 x.length (x.length+1)) y.length).length<=sizeLine:=by
    have e1:=StrLaws.occ_length_le x y 0 x.length (x.length+1);rw [length_partsBetween];omega
  cases h1:(decide (x.length < y.length) || decide (strKind x < strKind y))
  . cases hf:(occurrences x y 0 x.length (x.length+1)).isEmpty
    . refine call_meets F.slot_str_split (typeIs_str _ _ _) F.entry_str_split (F.args_str_split_2 _ _) (meets_str_split_sep x y t u h1 hy hf (by omega) hn) ?_;show wants Q E _ { s with toks:=_,heap:=s.heap.push { cls := .type "list",data := .seq (strsFrom s.toks (partsBetween x (occurrences x y 0 x.length (x.length+1)) y.length)).toArray } };rw [strsFrom_eq];exact h (numbered s.toks _) _ ((numbered_texts _ _).trans ((if_neg (ne_true_of_eq_false h1)).trans (if_neg (ne_true_of_eq_false hf))).symm)
    . exact call_meets F.slot_str_split (typeIs_str _ _ _) F.entry_str_split (F.args_str_split_2 _ _) (meets_str_split_not_found x y t u h1 hy hf)
        (h [(x,t)] s.toks ((if_neg (ne_true_of_eq_false h1)).trans (if_pos hf)).symm)
  . exact call_meets F.slot_str_split (typeIs_str _ _ _) F.entry_str_split (F.args_str_split_2 _ _) (meets_str_split_cannot_occur x y t u h1) (h [(x,t)] s.toks (if_pos h1).symm)
end
theorem a8G:∀ l:List (Str×Tok),Vals ((l.map (·.1)).map V.str) (strValues l)
  | [] => .nil
  | p :: r => .cons ⟨p.2,rfl⟩ (a8G r)
theorem abU {K:Fg} {H:Hp}:∀ l:List Str,bR K H (l.map D.str) (l.map V.str)
  | [] => .nil
  | x :: r => .cons (.str x) (abU r)
section
variable {X:Cx}
noncomputable def a3M:RM3:=fun x xs G R=>match x,xs with
  | .str a,[.str b]=>(b.length == 0)=false/\a.length+2<=sizeLine/\(Txt.split a b).length<=sizeLine/\∀ q,G q=none->R (.ref q) (aM G q (.lst ((Txt.split a b).map D.str)))
  | _,_=>False
theorem m_split:vW X "str.split" a3M:=fun pins s σ H x xs vx vs u us G R Q I rx rs ru rv g q k=>by
  cases rx with
  | str j =>
    cases rs with
    | nil=>exact False.elim q
    | cons r rr =>
      cases rr with
      | cons _ _=>cases r <;> exact False.elim q
      | nil =>
        cases r with
        | str i =>
          obtain ⟨t,rfl⟩:=ru;obtain ⟨u2,rfl,t2,rfl⟩:=vals1 rv;obtain ⟨q1,q2,q3,q4⟩:=q;refine aqF q1 q2 fun l tk e=>?_;have fr:H s.heap.objs.size=none:=I.hok.fresh (bw _);have sn:Same H (upd H s.heap.objs.size (.lst ((Txt.split j i).map V.str))):=bH fr
          have J:Inv X pins σ (upd H s.heap.objs.size (.lst ((Txt.split j i).map V.str))) { s with heap:=s.heap.push { cls := .type "list",data := .seq (strValues l).toArray },toks:=tk } :=
            I.laid (t':=tk) (o := .lst _) (fun b o e=>ao _ e) (bw _) ⟨by rw [au];exact q3,_,0,by rw [← e];exact a8G l,dj _ rfl⟩
          exact ⟨.ref s.heap.objs.size,_,J,rfl,k _ _ (.ref _) _ (.same sn) (.ref _) (g.put (u := .lst _) fr ⟨_,aF,abU _⟩) (q4 _ (iJ g fr (uP J)))⟩
        | _=>exact False.elim q
  | _ =>
    cases rs with
    | nil=>exact False.elim q
    | cons r rr=>cases rr <;> cases r <;> exact False.elim q
noncomputable def atG:List D->Gp->fM->Prop:=fun xs G R=>match xs with
  | [.int i]=>i.natAbs.log2 < 1920/\R (.str (toString i)) G
  | [.str z]=>R (.str z) G
  | _=>False
theorem a9X:rA X (.type "str") (fun xs H Q=>(∃ i,xs=[.int i]/\i.natAbs.log2 < 1920/\Q (.str (toString i)) H)∨∃ z,xs=[.str z]/\Q (.str z) H):=by
  intro pins s σ H xs us Q I r h;rcases h with ⟨i,rfl,hz,q⟩ | ⟨z,rfl,q⟩
  . obtain ⟨u,rfl,t,rfl⟩:=vals1 r;exact PySem.P.str_of_int hz ⟨.str _,H,I.tok _,⟨_,rfl⟩,q⟩
  . obtain ⟨u,rfl,t,rfl⟩:=vals1 r;exact PySem.P.str_of_str ⟨.str _,H,I,⟨_,rfl⟩,q⟩
theorem aD7:cV X (.type "str") atG:=cV.of a9X fun H xs vs G R Q rx g q k=>by
  cases rx with
  | nil=>exact False.elim q
  | cons r rr =>
    cases rr with
    | cons _ _=>cases r <;> exact False.elim q
    | nil =>
      cases r with
      | int i=>exact .inl ⟨i,rfl,q.1,fun _=>k _ H _ G (.refl H) (.str _) g q.2⟩
      | str z=>exact .inr ⟨z,rfl,fun _=>k _ H _ G (.refl H) (.str _) g q⟩
      | _=>exact False.elim q
noncomputable def a0G:List D->Gp->fM->Prop:=fun xs G R=>match xs with
  | [.ref q]=>(match bI G q with
    | some ds=>R (.tup ds) G
    | none=>False)
  | _=>False
theorem aqG:cV X (.type "tuple") a0G:=cV.of a72 fun H xs vs G R Q rx g q k=>by
  cases rx with
  | nil=>exact False.elim q
  | cons r rr =>
    cases rr with
    | cons _ _=>cases r <;> exact False.elim q
    | nil =>
      cases r with
      | ref a =>
        have q':(match bI G a with
          | some ds=>R (.tup ds) G
          | none=>False):=q
        split at q'
        . rename_i ds e1;obtain ⟨xs,h1,r1⟩:=cJ g e1;refine ⟨a,xs,rfl,.inl ⟨h1,fun l hl kf=>?_⟩⟩;have sn:Same H (upd H l (.tup xs)):=bH hl;exact k _ _ _ _ (.same sn) (.tup (uL.of aF) (r1.mono (.same sn)) (ap9 aF)) (g.same sn) q'
        . exact q'.elim
      | _=>exact False.elim q
end
end
section
section
variable {X:Cx} {pins:List (Addr×Obj)} {σ:St} {H:Hp} {s:Shared} {tl:List (Addr×List V)}
end
end
section
open PySem.W
variable {x:Key×Value}
section
variable {prog:Program} {w:World} {A:Around} {E:Value->Shared->Prop} {s:Shared}
noncomputable def aqH (prog:Program) (w:World) (I d:Addr) (h:Heap) (v:Value) (x:Key×Value):Prop:=∃ p o n key,v = .ref p/\h.get? p=some o/\o.cls = .type "tuple" /\ o.data = .seq #[key,x.2] n/\(aL prog w).is x.1 key=true/\p≠I/\p≠d
theorem aqH.keep {I d:Addr} (q:aqH prog w I d h v x) (k:∀ b o,b≠d->b≠I->h.get? b=some o->h'.get? b=some o):aqH prog w I d h' v x:=by
  obtain ⟨p,o,n,key,e,h1,h2,h3,h4,h5,h6⟩:=q;exact ⟨p,o,n,key,e,k _ _ h6 h5 h1,h2,h3,h4,h5,h6⟩
noncomputable def aD8 (prog:Program) (w:World) (h:Heap) (v:Value) (x:Key×Value):Prop:=∃ p o n key,v = .ref p/\h.get? p=some o/\o.cls = .type "tuple" /\ o.data = .seq #[key,x.2] n/\(aL prog w).is x.1 key=true
theorem aD8.ok {I d:Addr} (q:aD8 prog w h v x) (hI:h.objs.size<=I) (hd:h.objs.size<=d) (k:∀ b o,h.get? b=some o->h'.get? b=some o):aqH prog w I d h' v x:=by
  obtain ⟨p,o,n,key,e,h1,h2,h3,h4⟩:=q;have l1:=cu h1;exact ⟨p,o,n,key,e,k _ _ h1,h2,h3,h4,dw (dg l1 hI),dw (dg l1 hd)⟩
end
section
variable {X:Cx}
end
end
section
open PySem.W
section
variable {prog:Program} {w:World} {A:Around} {E:Value->Shared->Prop} {s:Shared}
end
section
variable {X:Cx}
end
end
section
open PySem.W
section
variable {prog:Program} {w:World} {A:Around} {E:Value->Shared->Prop} {s:Shared}
end
section
variable {X:Cx}
end
end
section
open PySem.W
section
variable {prog:Program} {w:World} {A:Around} {E:Value->Shared->Prop} {s:Shared}
section
variable {κ:Type} [DecidableEq κ] {knd:HeapKind prog w κ}
end
end
section
variable {X:Cx}
end
end
variable {u:Value}
section
open PySem.W
section
variable {X:Cx} {A:Around} {E:Value->Shared->Prop}
theorem aiH {σ:St} {y v:V} {r:Value} {Q:Unit->Shared->Prop} (hu:A.units < cLine) (I:Inv X pins σ H s) (g:ahY H a y v H') (ry:RelV y u) (rv:RelV v r) (h:∀ s',Inv X pins σ H' s'->Q () s'):wpAny (model X.prog X.w) A (dictSet a u r) Q E s:=by
  rcases g with ⟨kvs,k,e,ey,l,eH⟩ | ⟨kvs,k,b,e,ey,eb,l,eH⟩
  . subst ey eH;obtain ⟨z,hd,vs,rel,dd⟩:=afG I.hok e;have lp:=pP kvs k v;refine wpAny_dictSet_pairs (hsz:=by rw [← rel.length];exact z) (a01 ry) dd fun h' d2 hs=>h _ (pQ I (by rw [e];exact True.intro) hs (let ⟨q,_,_,hq,_⟩:=d2;⟨q,hq⟩) (a95 (by omega) hd (rel.put k rv) d2))
  . subst ey eH;cases (show u=Value.ref b from ry);obtain ⟨z,hd,xs,rel,dd⟩:=afH I.hok e;have lp:=pP kvs k v;refine wpAny_dictSet_heap (hsz:=by rw [← Paired.length rel];exact z) (show A.units < cLine from hu) (vJ I.hok eb) dd fun h' d2 hs=>h _ ?_;obtain ⟨q,es,ep,hq,h2,h3,h4,_,h5⟩:=d2;refine pQ I (by rw [e];exact True.intro) hs ⟨q,hq⟩ ⟨by omega,hd,_,(rel.put k eb rv).keeps fun c ys ec=>?_,q,es,ep,hq,h2,h3,h4,h5⟩;rw [aJ (nR ec e (fun z=>nomatch z))];exact ec
end
end
section
open PySem.W
structure Fz (X:Cx) (p:Addr):Prop where
  free:∀ ob,X.s₀.heap.get? p=some ob->X.H₀ p=none->p∈X.ex
  tup:∀ xs,X.H₀ p≠some (.tup xs)
  nQ:∀ o w,X.H₀ p≠some (.nQ o w)
  vB:∀ ps,X.H₀ p≠some (.vB ps)
section
variable {X:Cx} {pins:List (Addr×Obj)} {σ:St} {H:Hp} {s:Shared}
theorem Fz.of {p:Addr} {u:HO} (I:Inv X pins σ H s) (hu:H p=some u) (h1:∀ xs,u ≠ .tup xs) (h2:∀ ob w,u ≠ .nQ ob w) (h3:∀ ps,u ≠ .vB ps):Fz X p:=by
  refine ⟨fun ob q n=>?_,fun xs q=>?_,fun o w q=>?_,fun ps q=>?_⟩
  . apply Classical.byContradiction;intro hx;have:=I.base.free p ob q n hx;rw [hu] at this;cases this
  . have:=I.base.tups p xs q;rw [hu] at this;exact h1 xs (gw.inj this)
  . have:=I.base.dI p o w q;rw [hu] at this;exact h2 o w (gw.inj this)
  . obtain ⟨more,this⟩:=I.base.mL p ps q;rw [hu] at this;exact h3 _ (gw.inj this)
end
section
variable {X:Cx} {pins:List (Addr×Obj)} {σ:St} {H:Hp} {s:Shared}
end
section
variable {X:Cx}
end
section
variable {X:Cx} {pins:List (Addr×Obj)} {σ:St} {H:Hp} {s:Shared}
end
section
variable {X:Cx} {pins:List (Addr×Obj)} {σ:St} {H:Hp} {s:Shared}
end
end
section
open PySem.W
structure Tt (H H':Hp):Prop where
  tups:∀ a xs,H a=some (.tup xs)->H' a=some (.tup xs)
  awG:∀ a o xs,H a=some (.nQ o (.tup xs))->H' a=some (.nQ o (.tup xs))
  aLU:∀ a o φ,H a=some (.nQ o (.ext φ))->H' a=some (.nQ o (.ext φ))
variable {xs:List V}
theorem Tt.sqT {K:Fg} (t:Tt H H') (h:uL K H a xs):uL K H' a xs:=by
  rcases h with (h | ⟨o,h⟩) | h
  . exact .inl (.inl (t.tups _ _ h))
  . exact .inl (.inr ⟨o,t.awG _ _ _ h⟩)
  . exact .inr h
theorem ab4.yP (t:Tt H H') (h:ab4 H a xs):ab4 H' a xs:=trivial
mutual
theorem RD.yP {K:Fg} {H H':Hp} (t:Tt H H'):∀ {d:D} {v:V},RD K H d v->RD K H' d v
  | _,_,.non => .non
  | _,_,.bl b => .bl b
  | _,_,.int i => .int i
  | _,_,.str x => .str x
  | _,_,.ty n => .ty n
  | _,_,.ref a => .ref a
  | _,_,.tup h r e => .tup (t.sqT h) (bR.yP t r) (e.yP t)
theorem bR.yP {K:Fg} {H H':Hp} (t:Tt H H'):∀ {ds:List D} {vs:List V},bR K H ds vs->bR K H' ds vs
  | _,_,.nil => .nil
  | _,_,.cons h r => .cons (RD.yP t h) (bR.yP t r)
end
theorem SR.yP {K:Fg} {H H':Hp} (t:Tt H H'):∀ {ρ:aP} {σ:St},SR K H ρ σ->SR K H' ρ σ
  | _,_,.nil => .nil
  | _,_,.none r => .none (SR.yP t r)
  | _,_,.some h r => .some (h.yP t) (SR.yP t r)
section
variable {X:Cx} {pins:List (Addr×Obj)} {σ:St} {H:Hp} {s:Shared}
end
section
variable {X:Cx}
end
section
variable {X:Cx}
end
end
section
open PySem.W
section
variable {X:Cx}
end
end
section
section
variable {X:Cx} {es:List Expr} {kt:Nat} {pt:Pos}
theorem a8H {K:Fg} {H:Hp}:∀ {ns:List Int} {vs:List V},bR K H (ns.map D.int) vs->vs=ns.map V.int
  | [],_,.nil=>rfl
  | n :: ns,_,.cons r rr=>by cases r;rw [a8H rr];rfl
theorem a8I:∀ (ns ms:List Int),jJ (ns.map D.int) (ms.map D.int)=decide (ns=ms)
  | [],[]=>rfl
  | [],_ :: _=>rfl
  | _ :: _,[]=>rfl
  | n :: ns,m :: ms=>by
    show (eqP (.int n) (.int m)&&jJ (ns.map D.int) (ms.map D.int))=_;rw [a8I ns ms];have:eqP (.int n) (.int m)=decide (n=m):=by rw [eqP];exact wg.mpr (by simp)
    rw [this];simp [Bool.decide_and]
theorem xP (n:Nat) (ns:List Int):aO (n+1) (.tup (ns.map D.int))=true:=by
  simp only [aO,fj,jc];rintro x ⟨i,_,rfl⟩;cases n <;> rfl
end
end
section
section
variable {X:Cx}
open Classical in
end
end
section
open PySem.W
section
variable {X:Cx}
noncomputable def aFE:RM3:=fun x xs G R=>match x,xs with
  | .str j,[]=>Builtin.Str.tooLong (Txt.upper j).length=false/\R (.str (Txt.upper j)) G
  | _,_=>False
noncomputable def rJ:RM3:=fun x xs G R=>match x,xs with
  | .str j,[.str y]=>R (.bl (Txt.startswith j y)) G
  | _,_=>False
theorem abV:vW X "str.startswith" rJ:=fun pins s σ H x xs vx vs u us G R Q I rx rs ru rv g q k=>by
  unfold rJ at q;split at q
  . rename_i j y;cases rx;cases rs with
    | cons r1 rr =>
    cases rr;cases r1;obtain ⟨t,rfl⟩:=ru;obtain ⟨u2,rfl,ru2⟩:=vals1 rv;obtain ⟨t2,rfl⟩:=ru2;exact SC.startswith ⟨.bl _,H,I,rfl,k _ H _ G (.refl H) (.bl _) g q⟩
  . exact q.elim
theorem countIn_strs (k:Str):∀ (ys:List Str),countIn (.str k) (ys.map PyData.str)=((ys.countP (· == k):Nat):Int)
  | []=>rfl
  | n :: r=>by
    rw [List.countP_cons,iu,Spec.countIn,countIn_strs k r];simp only [Spec.same];rcases Bool.eq_false_or_eq_true (n == k) with hb | hb <;> simp only [hb,jh,if_true,if_false] <;> omega
noncomputable def xQ:RM3:=fun x xs G R=>match x,xs with
  | .ref q,[.str k]=>(match bI G q with
    | some ds=>(match pX ds with
      | some ys=>R (.int ((ys.countP (· == k):Nat):Int)) G
      | none=>False)
    | none=>False)
  | _,_=>False
theorem ag7:vW X "list.count" xQ:=fun pins s σ H x xs vx vs u us G R Q I rx rs ru rv g q k=>by
  unfold xQ at q;split at q
  . rename_i a y;split at q
    . rename_i ds e1;split at q
      . rename_i ys e2;cases rx;obtain rfl:u=Value.ref a:=ru;cases rs with
        | cons r1 rr =>
        cases rr;cases r1;obtain ⟨u2,rfl,ru2⟩:=vals1 rv;obtain ⟨t2,rfl⟩:=ru2;obtain ⟨ws,hq,r1⟩:=cJ g e1;obtain ⟨its,rv',⟨o,n,p1,p2,p3,p4⟩,hz⟩:=I.list hq;refine count_list_strs (vs:=its) ⟨o,p1,p2,n,p4⟩ (a0D r1 rv' e2) ?_;rw [countIn_strs];exact ⟨.int _,H,I.tok _,⟨_,rfl⟩,k _ H _ G (.refl H) (.int _) g q⟩
      . exact q.elim
    . exact q.elim
  . exact q.elim
theorem a8J {K:Fg} {H:Hp}:∀ {ds:List D} {xs:List V} (j:Nat),bR K H ds xs->bR K H (ds.eraseIdx j) (xs.eraseIdx j)
  | _,_,_,.nil => .nil
  | _,_,0,.cons _ r=>r
  | _,_,j+1,.cons h r => .cons h (a8J j r)
theorem a5E:∀ {xs:List V} {us:List Value} (j:Nat),Vals xs us->Vals (xs.eraseIdx j) (us.eraseIdx j)
  | _,_,_,.nil => .nil
  | _,_,0,.cons _ r=>r
  | _,_,j+1,.cons h r => .cons h (a5E j r)
noncomputable def a1Z:RM3:=fun x xs G R=>match xs with
  | [.int i]=>a8B x G fun p ds=>∃ (j:Nat) (d:D),i=(j:Int)/\ds[j]?=some d/\R d (aM G p (.lst (ds.eraseIdx j)))
  | _=>False
theorem alL:vW X "list.pop" a1Z:=fun pins s σ H x xs vx vs u us G R Q I rx rs ru rv g q k=>by
  have big:sizeLine < 2 ^ 62:=by decide
  unfold a1Z at q;split at q
  . rename_i i;obtain ⟨p,ds,ys,rfl,rfl,e,e1,r,j,d,ei,hj,q⟩:=abP rx g q;cases rs with
    | cons r1 rr =>
    cases rr;cases r1;obtain rfl:u=Value.ref p:=ru;obtain ⟨u2,rfl,ru2⟩:=vals1 rv;obtain ⟨t2,rfl⟩:=ru2;obtain ⟨hz,its,n,rvs,ho⟩:=(show dG X.prog X.w H s.heap p (.lst ys) from I.hok p _ e1);have hl:ds.length=ys.length:=r.length;have hl2:ys.length=its.length:=rvs.length;have jl:j < ds.length:=(cj.mp hj).1;obtain ⟨v,ev,rd⟩:=r.get hj;obtain ⟨w',ew,rw'⟩:=rvs.get ev
    have hk:seqIndex? i its.toArray.size=some j:=by
      rw [ei];unfold seqIndex?;rw [bh];simp;omega
    have hf:Builtin.List.listFitsIndex i=true:=by
      rw [ei];unfold Builtin.List.listFitsIndex;simp;omega
    have hy:its.toArray[j]?=some w':=by rw [List.getElem?_toArray];exact ew
    have hz':its.toArray.size<=sizeLine:=by rw [bh,← hl2];exact hz
    have mt:=PySem.MeetsSeq.list_pop_at p its.toArray n i t2 j w' hf hk hy hz';refine call_meets PySem.F.slot_list_pop ⟨_,ho,rfl⟩ PySem.F.entry_list_pop (PySem.F.args_list_pop_2 _ _) mt ⟨ho,?_⟩;have hs:=iy.update s.heap p (Obj.mapSeq fun xs=>xs.eraseIdxIfInBounds j)
    obtain ⟨n',ho'⟩:∃ n',(s.heap.update p (Obj.mapSeq fun xs=>xs.eraseIdxIfInBounds j)).get? p=some (seqObj "list" (its.eraseIdx j).toArray n'):=by
      have:=get?_update_seq ho fun xs=>xs.eraseIdxIfInBounds j;rw [show (its.toArray.eraseIdxIfInBounds j)=(its.eraseIdx j).toArray by simp] at this;exact ⟨_,this⟩
    have le:(ys.eraseIdx j).length<=sizeLine:=jd (List.length_eraseIdx_le ..) hz;have tt:Ts H (upd H p (.lst (ys.eraseIdx j))) := .turn e1 (fun _ z=>nomatch z) (fun _ _ z=>nomatch z);exact ⟨v,_,I.write (t':=s.toks) (x:=p) (e:=p) (o := .lst (ys.eraseIdx j)) (by rw [e1];exact True.intro) (.inl rfl) (fun b o hb z=>(hs.2 b hb).trans z) ⟨_,ho'⟩ ⟨le,its.eraseIdx j,n',a5E j rvs,ho'⟩,rw',k _ _ _ _ tt (rd.mono tt) (g.turn (u := .lst (ds.eraseIdx j)) tt ⟨_,aF,(a8J j r).mono tt⟩) q⟩
  . exact q.elim
end
theorem ag8 {prog:Program} {w:World} {A:Around} {E:Value->Shared->Prop} {s:Shared} {items:Array Value} {x:Value} {e:Value->Bool} {j:Nat} (hj:j < items.size) (hit:e items[j]=true) (hno:∀ m (hm:m < items.size),m < j->e items[m]=false) (he:∀ y,y∈items->SeqAt.EqAt A s y x (e y))
    {Q:Option PySem.Fin×PUnit->Shared->Prop} (h:Q (some (.done (.ret (.int j s.toks))),⟨⟩) { s with toks:=s.toks+1 }):∀ (k i:Nat),i+k=items.size->i<=j ->
    wpAny (model prog w) A (forIn (yh i k) ((none:Option PySem.Fin),PUnit.unit) fun (i:Nat) (_:Option PySem.Fin×PUnit)=>(match items[i]? with
      | some y=>do
        let b ← eqBool y x
        if b=true then do
          let r ← retInt (i:Int)
          pure (ForInStep.done (some r,PUnit.unit))
        else pure (ForInStep.yield (none,PUnit.unit))
      | _=>pure (ForInStep.yield (none,PUnit.unit)):Sem (ForInStep (Option PySem.Fin×PUnit)))) Q E s
  | 0,i,hk,hi=>absurd hj (by omega)
  | k+1,i,hk,hi=>by
    rw [List.range'_succ,qp];have hi2:i < items.size:=by omega
    rw [Array.getElem?_eq_getElem hi2];refine aj (aj (he _ (Array.getElem_mem hi2) prog w E _ ?_));by_cases c:i=j
    . subst c;rw [if_pos hit];refine aj (aj (wpAny_mkInt (aq ?_)));exact aq (aq h)
    . rw [if_neg (by rw [hno i hi2 (by omega)];decide)];exact aq (ag8 hj hit hno he h k (i+1) (by omega) (by omega))
theorem a79 (l:Addr) (items:Array Value) (n:Nat) (dd:Option Addr) (sl:Array (Option Value)) (x:Value) (e:Value->Bool) (j:Nat) (hj:j < items.size) (hit:e items[j]=true) (hno:∀ m (hm:m < items.size),m < j->e items[m]=false) :
    Meets (Builtin.«tuple.index» ⟨[.ref l,x],[]⟩)
      (fun A R s=>s.heap.get? l=some { cls := .type "tuple",dict:=dd,data := .seq items n,slots:=sl }/\(∀ y,y∈items->SeqAt.EqAt A.in1 s y x (e y))/\R (.ok (.ret (.int j s.toks))) { s with toks:=s.toks+1 }) :=
  .of_wp fun prog w A R s h=>by
    obtain ⟨hl,he,h⟩:=h;unfold Builtin.«tuple.index»;refine aj (aq ?_);refine aj (wpAny_tupleItemsOf hl rfl ?_);dsimp only;refine aj (aq (aj (aq ?_)));rw [Std.Legacy.Range.forIn_eq_forIn_range'];have es:yh [:min items.size items.size].start [:min items.size items.size].size [:min items.size items.size].step=yh 0 items.size:=by simp [Std.Legacy.Range.size]
    rw [es];refine aj (ag8 hj hit hno he ?_ items.size 0 (by omega) (oh _));exact aq ⟨_,rfl,h⟩
section
variable {X:Cx}
noncomputable def lO:RM3:=fun x xs G R=>match x,xs with
  | .tup ds,[.str k]=>(match pX ds with
    | some ys=>∃ j:Nat,ys[j]?=some k/\(∀ m,m < j->ys[m]?≠some k)/\R (.int j) G
    | none=>False)
  | _,_=>False
theorem alM:vW X "tuple.index" lO:=fun pins s σ H x xs vx vs u us G R Q I rx rs ru rv g q k=>by
  unfold lO at q;split at q
  . rename_i ds y;split at q
    . rename_i ys e2;obtain ⟨j,h1,h2,q⟩:=q;cases rx with
      | @tup a ws _ sq rr _ =>
      obtain rfl:u=Value.ref a:=ru;cases rs with
      | cons r1 rr2 =>
      cases rr2;cases r1;obtain ⟨u2,rfl,ru2⟩:=vals1 rv;obtain ⟨t2,rfl⟩:=ru2;obtain ⟨its,vi,⟨o,p1,p2,n,p3⟩,_⟩:=I.tuple sq;have hi:StrsAre its ys:=a0D rr vi e2;have len:its.length=ys.length:=hi.len_eq;have jl:j < ys.length:=(cj.mp h1).1;have hobj:s.heap.get? a=some { cls := .type "tuple",dict:=o.dict,data := .seq its.toArray n,slots:=o.slots }:=by rw [p1];cases o;simp_all
      have at1:∀ m (hm:m < its.toArray.size) ym,ys[m]?=some ym->isStrOf y its.toArray[m]=(ym == y):=fun m hm ym em=>by
        obtain ⟨t,et⟩:=hi.at em
        have z:its.toArray[m] = .str ym t:=by
          rw [dh (by simpa using hm)] at et;simpa using et
        rw [z];rfl
      refine call_meets PySem.F.slot_tuple_index ⟨_,hobj,rfl⟩ PySem.F.entry_tuple_index (PySem.F.args_tuple_index_2 _ _) (a79 a its.toArray n o.dict o.slots (.str y t2) (isStrOf y) j (by simpa [len] using jl) ?_ ?_) ⟨hobj,fun z hz=>(eq_isStrOf y t2 hi z (by simpa using hz)).at _ _,⟨.int j,H,I.tok _,⟨_,rfl⟩,k _ H _ G (.refl H) (.int _) g q⟩⟩
      . rw [at1 j (by simpa [len] using jl) y h1];exact beq_self_eq_true y
      . intro m hm lt;have ml:m < ys.length:=by omega
        rw [at1 m hm ys[m] (dh ml)];exact beq_eq_false_iff_ne.mpr fun z=>h2 m lt (by rw [dh ml,z])
    . exact q.elim
  . exact q.elim
end
end
variable {j1:Nat}{p1:Pos}{keys:List (Option Expr)}{values:List Expr}{tv:cF}
section
open PySem.W
variable {p:Addr}{ks:List Str}
section
variable {X:Cx}
noncomputable def rK:RM3:=fun x xs G R=>match x,xs with
  | .str j,[.str y,.str z]=>j.length+(j.length+1) * z.length<=16777216/\R (.str (Txt.replace j y z)) G
  | _,_=>False
theorem axR {j2:Nat} {p2:Pos} (hn:X.need=true) (hyz:(y == z)=false) (ho:cI X o to)
    (hbase:attributeBase o "replace" X.env (eval o X.env)=eval o X.env:=by rfl) (hline:(apos.endLine == cpos.line)=true:=by rfl) :
    cI X (.Call (.Attribute o "replace" apos) [.Constant (.str y) j1 p1,.Constant (.str z) j2 p2] [] cpos) (tM3 "str" rK to (aA (aV (.str y)) (aA (aV (.str z)) aC))):=by
  intro pins s σ H Q I h _tk;obtain ⟨ρ,G,R,sr,g,q,kk⟩:=h;refine wpAny_Call_method_late hbase rfl hline rfl (cR (ho pins s σ H (fun vx H1=>Ts H H1/\∃ x G1,RD X.K H1 x vx/\HR X.K H1 G1/\a76 "str" G1 x/\rK x [.str y,.str z] G1 R) I ⟨ρ,G,_,sr,g,q,fun v H1 x G1 t1 r1 g1 q1=>⟨t1,x,G1,r1,g1,q1⟩⟩) fun v s1 ⟨vx,H1,I1,r1,t1,x,G1,rx,g1,ty,q1⟩=>?_);obtain ⟨h1,h2⟩:=adN I1 r1 (adV g1 rx ty);refine ⟨"str", "str.replace",PySem.F.plainAttrs_str,PySem.F.slot_str_replace,PySem.F.type_str_replace,h1,h2,?_⟩;have pos:0 < s1.toks:=(inferInstance:Tk X.need s1).pos hn;cases rx with
  | str j =>
    obtain ⟨t,rfl⟩:=r1;refine Calls.callWith_builtin rfl (Calls.evalArgs_plain ?_);refine Calls.spliced_cons (Calls.Constant_str (k:=j1) (pos:=p1) (Calls.spliced_cons (Calls.Constant_str (k:=j2) (pos:=p2) (Calls.spliced_nil ?_))));exact SC.replace (by show s1.toks≠0;omega) (by show s1.toks+1≠0;omega) (by show s1.toks≠s1.toks+1;omega) hyz q1.1 fun t' k=>⟨.str _,H1,(I1.tok _:Inv X pins σ H1 { s1 with toks:=k }),⟨_,rfl⟩,kk _ H1 _ G1 t1 (.str _) g1 q1.2⟩
  | _=>exact False.elim q1
noncomputable def aqI (ds:List D) (te:cF):cF:=fun ρ G R=>te ρ G fun y G1=>lO (.tup ds) [y] G1 R
theorem aD9 {x:Str} {v:V} {p:Pos} (hg:Gl X x) (hm:X.mg x=some u) (rv:RelV v u) (rd:∀ H,RD X.K H (.tup ds) v) (he:cI X e te) (hs:starEach [e] X.env=[(false,eval e X.env)]) (hline:(apos.endLine == cpos.line)=true) (hdb:(x == ("__debug__" : Str))=false):cI X (.Call (.Attribute (.Name x p) "index" apos) [e] [] cpos) (aqI ds te):=by
  intro pins s σ H Q I h _tk;obtain ⟨ρ,G,R,sr,g,q,kk⟩:=h
  obtain ⟨a,o,rfl,hk,hc,hd⟩:∃ a o,v = .ref a/\X.K.lookup a=some o/\o.cls = .type "tuple" /\ o.dict=none:=by
    cases rd (fun _=>none) with
    | @tup a xs _ sq r e0 =>
      rcases sq with (z | ⟨_,z⟩) | ⟨o,its,n,hk,hc,hd,_⟩
      . cases z
      . cases z
      . exact ⟨a,o,rfl,hk,hc,hd⟩
  obtain rfl:u=Value.ref a:=rv;refine wpAny_Call_method_late rfl (by rw [hs];rfl) hline rfl (jX I hg hm ?_ hdb);refine ⟨"tuple", "tuple.index",PySem.F.plainAttrs_tuple,PySem.F.slot_tuple_index,PySem.F.type_tuple_index,⟨o,I.kIn a o hk,hc⟩,fun b e=>by cases e;exact ⟨o,I.kIn _ o hk,hd⟩,?_⟩;have hA:=sI (es:=[]) he ab7 (by rw [hs];rfl) cpos pins s σ H (fun vs H2=>Ts H H2/\∃ xs G2,bR X.K H2 xs vs/\HR X.K H2 G2/\lO (.tup ds) xs G2 R) I ⟨ρ,G,fun xs G2=>lO (.tup ds) xs G2 R,sr,g,q,fun vs H2 xs G2 t2 r2 g2 q2=>⟨t2,xs,G2,r2,g2,q2⟩⟩;rw [hs] at hA ⊢;refine Calls.callWith_builtin rfl (Calls.evalArgs_plain ?_);exact cR hA fun us s2 ⟨vs,H2,I2,r2,t2,xs,G2,rs,g2,q2⟩=>alM pins s2 σ H2 (.tup ds) xs (.ref a) vs (.ref a) us G2 R Q I2 (rd H2) rs rfl r2 g2 q2 fun v H' d G' t3=>kk v H' d G' (t2.trans t3)
noncomputable def kvS:List Str->List D->List (DK×D)->List (DK×D)
  | k :: ks,d :: ds,kvs=>kvS ks ds (a5A kvs (.inl (.inr k)) d)
  | _,_,kvs=>kvs
noncomputable def VS:List Str->List V->List (Value×Value)->Prop
  | [],[],[]=>True
  | k :: ks,w :: ws,u :: us=>(∃ t,u.1 = .str k t)/\RelV w u.2/\VS ks ws us
  | _,_,_=>False
noncomputable def PDs (X:Cx) (pos:Pos) (keys:List (Option Expr)) (values:List Expr) (ks:List Str) (t:pL):Prop :=
  ∀ (pins:List (Addr×Obj)) (s:Shared) (σ:St) (H:Hp) (Q:List V->Hp->Prop),Inv X pins σ H s->upA X.K t σ H Q->[Tk X.need s] ->
    wpAny (model X.prog X.w) X.A (evalPairs (pairTrees keys values X.env pos)) (fun us s'=>∃ ws H',Inv X pins σ H' s'/\VS ks ws us/\Q ws H') X.xe s
theorem aqJ:PDs X pos [] [] [] aC:=fun pins s σ H Q I h=>by
  obtain ⟨ρ,G,R,sr,g,q,kk⟩:=h;exact pairTrees_nil_walk ⟨[],H,I,trivial,kk [] H [] G (.refl H) .nil g q⟩
theorem alO {k:Str} {v:Expr} {t:pL} (hv:cI X v tv) (hr:PDs X pos keys values ks t) :
    PDs X pos (some (.Constant (.str k) j1 p1) :: keys) (v :: values) (k :: ks) (aA tv t):=fun pins s σ H Q I h=>by
  obtain ⟨ρ,G,R,sr,g,q,kk⟩:=h;refine pairTrees_cons_walk (Calls.Constant_str (k:=j1) (pos:=p1) ?_);refine cR (hv pins _ σ H (fun vv H1=>Ts H H1/\∃ d G1,RD X.K H1 d vv/\HR X.K H1 G1/\t ρ G1 fun ds G2=>R (d :: ds) G2) (I.tok _) ⟨ρ,G,_,sr,g,q,fun vv H1 d G1 t1 r1 g1 q1=>⟨t1,d,G1,r1,g1,q1⟩⟩) fun uv s2 ⟨vv,H1,I1,rv,t1,d,G1,rd,g1,q1⟩=>?_;exact cR (hr pins s2 σ H1 (fun ws H2=>Ts H1 H2/\∃ ds G2,bR X.K H2 ds ws/\HR X.K H2 G2/\R (d :: ds) G2) I1 ⟨ρ,G1,_,sr.mono t1,g1,q1,fun ws H2 ds G2 t2 r2 g2 q2=>⟨t2,ds,G2,r2,g2,q2⟩⟩) fun us s3 ⟨ws,H2,I2,vs,t2,ds,G2,rds,g2,q2⟩=>⟨vv :: ws,H2,I2,⟨⟨_,rfl⟩,rv,vs⟩,kk (vv :: ws) H2 (d :: ds) G2 (t1.trans t2) (.cons (rd.mono t2) rds) g2 q2⟩
variable {o:GO}
theorem alP (h:G p=some o):aM G p o=G:=funext fun a=>by
  by_cases c:a=p
  . subst c;rw [aD,h]
  . rw [aX c]
theorem a5F {o':GO}:aM (aM G p o) p o'=aM G p o':=funext fun a=>by
  by_cases c:a=p
  . subst c;rw [aD,aD]
  . rw [aX c,aX c,aX c]
theorem ag9 {A:Around} {E:Value->Shared->Prop} {p:Addr} {pins:List (Addr×Obj)} {σ:St} {Q:Shared->Prop} (hu:A.units < cLine):∀ (ks:List Str) (ds:List D) (ws:List V) (us:List (Value×Value)) (kvs:List (DK×D)) (H:Hp) (G:Gp) (s:Shared),VS ks ws us->bR X.K H ds ws->Inv X pins σ H s->HR X.K H G->G p=some (.lX false kvs)->kvs.length+ks.length < sizeLine ->
    (∀ H' s',Inv X pins σ H' s'->Ts H H'->HR X.K H' (aM G p (.lX false (kvS ks ds kvs)))->Q s')->wpAny (model X.prog X.w) A (storeAll p us) (fun _ s'=>Q s') E s
  | [],ds,ws,us,kvs,H,G,s,v,r,I,g,hG,hl,k=>by
    cases ws with
    | cons _ _=>exact v.elim
    | nil =>
    cases us with
    | cons _ _=>exact v.elim
    | nil =>
      unfold storeAll;rw [List.forIn_nil];refine aq (k H s I (.refl H) ?_);unfold kvS;rw [alP hG];exact g
  | key :: ks,ds,ws,us,kvs,H,G,s,v,r,I,g,hG,hl,k=>by
    cases ws with
    | nil=>exact v.elim
    | cons w ws =>
    cases us with
    | nil=>exact v.elim
    | cons u us =>
      obtain ⟨⟨t,e⟩,rv,v⟩:=v;obtain ⟨u1,u2⟩:=u;obtain rfl:u1 = .str key t:=e;cases r with
      | @cons d _ ds _ rd r =>
      have q:rH (.ref p) (.str key) G fun a t' kvs' k'=>kvs'=kvs/\k' = .inl (.inr key):=by
        unfold rH;dsimp only;rw [hG];exact ⟨rfl,rfl,rfl⟩
      obtain ⟨a,kvs',kd,ea,_,e1,_,⟨rfl,rfl⟩,dd⟩:=oE (.ref p) (.str key) g q;cases ea;have hl2:kvs'.length+(ks.length+1) < sizeLine:=hl;obtain ⟨H4,pp,tt,g4⟩:=dd.put g rd (by omega)
      have e0:storeAll p ((Value.str key t,u2) :: us)=(do dictSet p (Value.str key t) u2;storeAll p us):=by
        unfold storeAll;rw [qp];simp only [bind_assoc,pure_bind]
      rw [e0];refine aj (aiH hu I pp ⟨t,rfl⟩ rv fun s3 I3=>?_)
      have lp:(a5A kvs' (.inl (.inr key)) d).length<=kvs'.length+1:=by
        unfold a5A;split
        . rw [au];omega
        . rw [iz];exact bw _
      refine ag9 hu ks ds ws us _ H4 _ s3 v (r.mono tt) I3 g4 aD (by omega) fun H' s' I' t' g'=>k H' s' I' (tt.trans t') ?_;rw [a5F] at g';exact g'
noncomputable def a9Y (ks:List Str) (t:pL):cF:=fun ρ G R=>∀ p,G p=none->t ρ (aM G p (.lX false [])) fun ds G2=>G2 p=some (.lX false [])/\R (.ref p) (aM G2 p (.lX false (kvS ks ds [])))
theorem aqK {t:pL} (hu:X.A.units+64 < cLine) (hall:keys.all (·.isSome)=true) (hl:keys.length=values.length) (h0:keys≠[]) (h15:keys.length<=15) (hks:ks.length<=15) (hd:PDs X pos keys values ks t):cI X (.Dict keys values pos) (a9Y ks t):=by
  intro pins s σ H Q I h _tk;obtain ⟨ρ,G,R,sr,g,q,kk⟩:=h;have big:15 < sizeLine:=by decide
  refine wpAny_Dict_any hall hl h0 h15 ?_;have fr:H s.heap.objs.size=none:=I.hok.fresh (bw _);have sn:Same H (upd H s.heap.objs.size (.dK [])):=bH fr;have J:=I.laid (a:=s.heap.objs.size) (o := .dK []) (t':=s.toks) (fun _ _ q=>ao _ q) (bw _) (ab1 s.heap I.big);have g0:HR X.K (upd H s.heap.objs.size (.dK [])) (aM G s.heap.objs.size (.lX false [])):=g.put (u := .lX false []) fr (.inl ⟨rfl,[],aF,.nil⟩);have t0:Ts H (upd H s.heap.objs.size (.dK [])) := .same sn;refine cR (hd pins _ σ _ (fun ws H1=>Ts (upd H s.heap.objs.size (.dK [])) H1/\∃ ds G1,bR X.K H1 ds ws/\HR X.K H1 G1/\G1 s.heap.objs.size=some (.lX false [])/\R (.ref s.heap.objs.size) (aM G1 s.heap.objs.size (.lX false (kvS ks ds [])))) J ⟨ρ,_,_,sr.mono t0,g0,q _ (iJ g fr (uP J)),fun ws H1 ds G1 t1 r1 g1 q1=>⟨t1,ds,G1,r1,g1,q1⟩⟩) fun us s1 ⟨ws,H1,I1,v,t1,ds,G1,r1,g1,e1,q1⟩=>?_;exact ag9 (by omega) ks ds ws us [] H1 G1 s1 v r1 I1 g1 e1 (by show 0+ks.length < sizeLine;omega) fun H' s' I' t' g'=>⟨.ref _,H',I',rfl,kk _ H' _ _ ((t0.trans t1).trans t') (.ref _) g' q1⟩
end
end
variable {EX:aP->aY}
section
open PySem.W
noncomputable abbrev Cx.ask (X:Cx):Cx:={ X with need:=true }
theorem Inv.ask {σ:St} (I:Inv X pins σ H s):Inv X.ask pins σ H s :=
  let o:=I.ok
  ⟨⟨o.mod,o.kind,o.glob,o.blt,o.above,o.inj,o.has,o.cab,o.hd,o.frames,o.stk,o.exf,o.bs,o.bsz,o.a2V,o.a3V,o.mQ,o.frf⟩,I.os,I.bare,I.base,I.loc,I.cell,I.free,I.fZ,I.pin,I.hok,I.len,I.hnd,I.tup⟩
theorem Inv.atH {σ:St} (I:Inv X.ask pins σ H s):Inv X pins σ H s :=
  let o:=I.ok
  ⟨⟨o.mod,o.kind,o.glob,o.blt,o.above,o.inj,o.has,o.cab,o.hd,o.frames,o.stk,o.exf,o.bs,o.bsz,o.a2V,o.a3V,o.mQ,o.frf⟩,I.os,I.bare,I.base,I.loc,I.cell,I.free,I.fZ,I.pin,I.hok,I.len,I.hnd,I.tup⟩
theorem Cat.ask (h:Cat X EX):Cat X.ask EX:=⟨fun pins σ H s ρ e s' I sr c=>h.afR pins σ H s ρ e s' I.atH sr c⟩
theorem Thr.ask (h:Thr X EX):Thr X.ask EX:=⟨fun pins σ H s ρ C e us h' I sr m c=>h.made pins σ H s ρ C e us h' I.atH sr m c⟩
structure abW (qt:Bool) (P:Program) (w:World) (K:bx) (mg:Str->Option Value) (base:Heap) (CX:CXT) (k:Nat) (f:Addr) (fd:FuncData) (ps:List Str) (sp:Sp):Prop where
  len:∀ vs H Q E,sp vs H Q E->vs.length=ps.length
  run:∀ (A:Around) (outer:List Env) (s:Shared) (H:Hp) (args:Args) (us:List Value) (vs:List V) (Q:VK) (E:XK),cO qt k A->vG P w K mg base A outer s H->BindsTo s fd args (ps.zip us)->Vals vs us->sp vs H Q E->0 < s.toks ->
    codeAny (model P w) A (.call (.ref f) args) (CR CX outer P w H s Q E) s
theorem abW.mono {qt:Bool} {P:Program} {w:World} {K:bx} {mg:Str->Option Value} {base:Heap} {CX:CXT} {j k:Nat} {f:Addr} {fd:FuncData} {ps:List Str} {sp:Sp} (F:abW qt P w K mg base CX j f fd ps sp) (h:j<=k):abW qt P w K mg base CX k f fd ps sp :=
  ⟨F.len,fun A outer s H args us vs Q E hr=>F.run A outer s H args us vs Q E (hr.mono h)⟩
section
variable {X:Cx} {k:Nat} {f:Addr} {fd:FuncData} {ps:List Str} {sp:kJ} {EX:aP->aY} {x:Str} {p pos:Pos} {e:Expr} {es:List Expr} {t:pL}
end
end
variable {f:Addr}{ps:List Str}{qual:Str}{qt:Bool}{mg:Str->Option Value}{base:Heap}
section
open PySem.W
section
variable {M:Model} {A:Around} {E:Value->Shared->Prop} {s₀ s:Shared} {env:Env}
theorem a8K (f:Str×Value->PUnit->Sem (ForInStep PUnit)) (hf:∀ n v u,f (n,v) u=(do storeName env n v;pure (.yield ⟨⟩))) (hk:env.scope.kind = .function) :
    ∀ (binds:List (Str×Value)) (m:Str->Option Value) (s:Shared) (Q:PUnit->Shared->Prop),InX s₀ env.locals m env.scope.names s ->
      (∀ x∈binds,env.kindOf x.1=some .local)->(binds≠[]∨0 < s.toks)->(∀ s',InX s₀ env.locals (bindL env.kindOf binds m) env.scope.names s'->0 < s'.toks->Q ⟨⟩ s')->wpAny M A (forIn binds ⟨⟩ f) Q E s
  | [],m,s,Q,x,_,ht,h=>by rw [List.forIn_nil];exact aq (h s x (ht.elim (fun z=>absurd rfl z) id))
  | (n,v) :: r,m,s,Q,x,hl,ht,h=>by
    rw [qp,hf];have l:=hl (n,v) qj;refine aj (aj (wpAny_storeName_local l x.call.ns (fun h' hn' hs'=>aq (a8K f hf hk r _ _ Q ⟨⟨?_,hn',fun b o e=>?_,x.call.fresh⟩,fun k c hc=>?_,x.apart⟩ (fun y hy=>hl y (iw _ hy)) (.inr (Nat.succ_pos _)) fun s'' x''=>h s'' ?_)) (by rw [hk];rfl)))
    . obtain ⟨h₁,tk,rfl⟩:=x.call.same;exact ⟨h',_,rfl⟩
    . exact hs'.extBut b o (dw (dg (cu e) x.call.fresh)) (x.call.keep b o e)
    . exact ⟨(x.cell k c hc).1.sameBut hs' (zm (x.cell k c hc).2),(x.cell k c hc).2⟩
    . unfold bindL;rw [if_pos l];exact x''
theorem aqL {binds:List (Str×Value)} {code:Value} {Q:Env->Shared->Prop} (hk:scope.kind = .function) (hloc:∀ x∈binds,scope.names.lookup x.1=some .local) (hne:binds≠[])
    (hQ:∀ s',InX s s.heap.objs.size (bindL (fW qual scope s.heap.objs.size f code []).kindOf binds fun _=>none) scope.names s'->0 < s'.toks->Q (fW qual scope s.heap.objs.size f code []) s') :
    wpAny M A (newFunctionEnv scope mainGlobals [] binds (qual ++ ".<locals>.") (some f) code none builtinsNs) Q E s:=by
  simp only [newFunctionEnv,Option.isSome_none,jh,if_false];refine aj (wpAny_alloc ?_);refine aj (wpAny_layCells _ (fun name kind cells=>by cases hkc:kind == NameKind.cell <;> simp [hkc]) _ _ _ _ ?_);have ok:=cellsFrom_ok scope.names (s.heap.push { cls := .type "frame",data := .dict #[] }) (s.heap.objs.size+1) [] ⟨fun _ _ hm=>(nomatch hm),List.Pairwise.nil⟩ (by rw [qm];exact bw _);rw [qm] at ok;rw [show ({ s with heap:=s.heap.push { cls := .type "frame",data := .dict #[] } }:Shared).heap.objs.size=s.heap.objs.size+1 from qm ..]
  refine aj (a8K (s₀:=s) (env:=fW qual scope s.heap.objs.size f code []) _ (fun _ _ _=>rfl) hk binds (fun _=>none) _ _
    ⟨⟨⟨_,_,rfl⟩,(Heap.Ns.new s.heap (.type "frame")).keeps (pushCells_keeps _ _),fun b o e=>pushCells_keeps _ _ b o (ao _ e),bw _⟩,fun n c hm=>ok.empty n c hm,ok.apart⟩ hloc (.inl hne) fun s' x ht=>aq (hQ s' x ht))
end
theorem yQ:∀ (names:List (Str×NameKind)) (n:Nat),names.all (fun y=>y.2 != .cell)=true->cellsFrom n names []=[]
  | [],_,_=>rfl
  | (x,k) :: r,n,h=>by
    rw [mq,ak] at h;unfold cellsFrom;have h1:(k == NameKind.cell)=false:=by simpa using h.1
    rw [h1];exact yQ r n h.2
theorem axS {CX:CXT} {w:World} {K:bx} {k:Nat} {params:Arguments} {dV kV doc pm cdv ct oc:Value} {an od:Option Addr} {osl:Array (Option Value)} {sp:Sp}
    (lk:K.lookup f=some ⟨oc,od,.func (nu name qual params body scope dV kV doc pm an cdv ct),osl⟩) (hcd:uo K cdv qual=true) (S:bD N ps scope) (hnc:scope.names.all (fun y=>y.2 != .cell)=true) (hne:ps≠[]) (len:∀ vs H Q E,sp vs H Q E->vs.length=ps.length)
    (hbody:∀ (A:Around) (outer:List Env) (s:Shared) (H:Hp) (vs:List V) (Q:VK) (E:XK),cO qt k (A.deeper (envOfC qual scope s.heap.objs.size f cdv))->sp vs H Q E ->
      ∃ t,PSs (gQ qt CX P w K mg base N qual scope f cdv A outer s H E).ask body t/\t { nx:=fun _ H'=>Q .non H',rt:=Q } (start N vs) H) :
    cG qt P w K mg base CX (k+1) f (nu name qual params body scope dV kV doc pm an cdv ct) ps sp:=by
  refine ⟨len,fun A outer s H args us vs Q E hr e0 hb r hsp=>?_⟩;have hl:=len _ _ _ _ hsp;have KX:K.In s.heap:=e0.mod.kin.keeps fun b o e=>(e0.bs b o e).1;have lim:s.heap.NoLimit:=e0.mod.nolimit.keeps fun b o e=>(e0.bs b o e).1;have ecl:∀ n,cellsFrom n scope.names []=[]:=fun n=>yQ _ _ hnc
  have hloc:∀ y∈ps.zip us,scope.names.lookup y.1=some .local:=fun ⟨n,v⟩ hy=>by
    rcases S.par n (ug hy).1 with q | q
    . exact q
    . obtain ⟨c,e⟩:=vH (n:=0) q;rw [ecl] at e;cases e
  have aHX:ps.zip us≠[]:=fun z=>by
    have:(ps.zip us).length=0:=by rw [z];rfl
    rw [List.length_zip,← r.length,hl] at this;simp at this;exact hne this
  refine codeAny_call_function hr.depth (KX _ _ lk) rfl S.co S.gen rfl (a0c KX hcd) (hb _ _ _ _ ?_);refine aqL S.kind hloc aHX fun s1 y tp=>?_;refine ⟨lim.keeps y.call.keep,codeAny_func ?_⟩;obtain ⟨t,ht,hq⟩:=hbody A outer s H vs Q E (hr.deeper _) hsp
  have x:InCallC s s.heap.objs.size (bindL (envOfC qual scope s.heap.objs.size f cdv).kindOf (ps.zip us) fun _=>none) (cellsFrom (s.heap.objs.size+1) scope.names []) (bindC (envOfC qual scope s.heap.objs.size f cdv).kindOf (ps.zip us) fun _=>none) s1:=by
    rw [ecl];exact ⟨y.call,(fun n c z=>nomatch z),.nil,fun n c z=>nomatch z⟩
  have I:Inv (gQ qt CX P w K mg base N qual scope f cdv A outer s H E) [] (start N vs) H s1:=a1O S hr.hd e0 hl r x;refine wpAny_mono (@ht [] s1 (start N vs) H _ I.ask hq ⟨fun _=>tp⟩) (fun fl s' hs=>?_) fun e s' hs=>hs;have fin:∀ {σ':St} {H':Hp} {v:V} {u:Value},Inv (gQ qt CX P w K mg base N qual scope f cdv A outer s H E).ask [] σ' H' s'->RelV v u->Q v H'->CE outer P w H s Q u s':=fun {σ' H' v u} J rv q=>⟨v,H',J.os,J.bare,J.base,J.hok,rv,q⟩;cases fl with
  | ret u =>
    obtain ⟨v,σ',H',J,rv,q⟩:=hs;exact fin J rv q
  | next =>
    obtain ⟨σ',H',J,q⟩:=hs;exact fin (v:=V.non) (u:=Value.none) J rfl q
  | brk =>
    obtain ⟨_,_,_,q⟩:=hs;exact False.elim q
  | cont =>
    obtain ⟨_,_,_,q⟩:=hs;exact False.elim q
theorem aqM {w:World} {K:Fg} {x:Str} {st:Stmt} {fd:FuncData} {k:Nat} {tb:aY->bL} (F:v9 K x qual st f fd) (S:bD N ps (aH st)) (hnc:(aH st).names.all (fun y=>y.2 != .cell)=true) (hne:ps≠[])
    (hbody:∀ (cdv:Value) (A:Around) (outer:List Env) (s:Shared) (H:Hp) (E:XK) (EX:aY),cO qt k (A.deeper (envOfC qual (aH st) s.heap.objs.size f cdv))->UpX K EX E ->
      yI (cx1 qt P w K mg base N qual (aH st) f cdv A outer s H E).ask (cA st) (tb EX)):cG qt P w K mg base (iK P w) (k+1) f fd ps (cY K (apH N.length ps.length tb)):=by
  obtain ⟨oc,od,dV,kV,doc,pm,an,cdv,ct,osl,rfl,lk,hcd⟩:=F.ex;refine axS lk hcd S hnc hne (fun vs H Q E h=>?_) fun A outer s H vs Q E hr hsp=>?_
  . obtain ⟨ds,G,R,EX,r,g,⟨hl,q⟩,_⟩:=h;rw [← r.length,hl]
  . obtain ⟨ds,G,R,EX,r,g,⟨hl,q⟩,kk,hE⟩:=hsp;refine ⟨_,hbody cdv A outer s H E EX hr hE,fB N.length ds,G,_,?_,g,q,⟨fun ρ G' σ' H' s1 g1 q1=>kk .non H' .non G' .non g1 q1,fun d G' v H' r1 g1 q1=>kk v H' d G' r1 g1 q1,fun _ _ _ _ _ _ z=>z.elim,fun _ _ _ _ _ _ z=>z.elim⟩⟩;unfold fB start;rw [r.length];exact SR.entry r
end
section
open PySem.W
noncomputable abbrev K3:=List Int×List Int×Int
noncomputable def k3D (k:K3):D := .tup [.tup (k.1.map D.int),.tup (k.2.1.map D.int),.int k.2.2]
noncomputable def ltK (a b:K3):Bool:=if a.1=b.1 then (if a.2.1=b.2.1 then decide (a.2.2 < b.2.2) else HT.lexLt a.2.1 b.2.1) else HT.lexLt a.1 b.1
section
variable {X:Cx} {pins:List (Addr×Obj)} {σ:St} {H:Hp} {s:Shared}
theorem alQ (I:Inv X pins σ H s) {k:K3} {v:V} (r:RD X.K H (k3D k) v) (rv:RelV v u):∃ a o n b c t,u = .ref a/\s.heap.get? a=some o/\o.cls=Value.type "tuple" /\ o.data = .seq #[.ref b,.ref c,.int k.2.2 t] n/\RD X.K H (.tup (k.1.map D.int)) (.ref b)/\RD X.K H (.tup (k.2.1.map D.int)) (.ref c):=by
  unfold k3D at r;cases r with
  | @tup a zs _ hq rz _ =>
    obtain rfl:u=Value.ref a:=rv;obtain ⟨its,vi,⟨o,h1,h2,n,h3⟩,_⟩:=I.tuple hq;cases rz with
    | cons ra rb =>
    cases rb with
    | cons rb rc =>
    cases rc with
    | cons rc rn =>
    cases rn;cases rc;cases vi with
    | cons va vb =>
    cases vb with
    | cons vb vc =>
    cases vc with
    | cons vc vn =>
    cases vn;obtain ⟨t,rfl⟩:=vc;cases ra with
    | @tup b ys _ hb rbs eb =>
    cases rb with
    | @tup c ws _ hc rcs ec =>
    cases va;cases vb;exact ⟨a,o,n,b,c,t,rfl,h1,h2,h3,.tup hb rbs eb,.tup hc rcs ec⟩
theorem a3N (I:Inv X pins σ H s) (r:RD X.K H (.tup (ns.map D.int)) (.ref b)):∃ its,IsTup s.heap b its/\IntsAre its.toList ns:=by
  cases r with
  | @tup _ ys _ hb rbs eb =>
    obtain ⟨its,vi,p,_⟩:=I.tuple hb;have e:ys=ns.map V.int:=a8H rbs;subst e;exact ⟨its.toArray,p,by simpa using intsAre_of vi⟩
theorem a8L (I:Inv X pins σ H s):∀ {ks:List K3} {xs:List V} {us:List Value},bR X.K H (ks.map k3D) xs->Vals xs us->∃ fs:List Value,KatTups s.heap us fs/\fs.length=ks.length/\∀ v∈fs,∃ b o,v = .ref b/\s.heap.get? b=some o/\o.cls=Value.type "tuple"
  | [],_,_,.nil,.nil=>⟨[],trivial,rfl,fun v h=>by cases h⟩
  | k :: ks,_,_,.cons r rs,.cons v vs=>by
    obtain ⟨fs,k1,k2,k3⟩:=a8L I rs vs;obtain ⟨a,o,n,b,c,t,rfl,h1,h2,h3,rb,rc⟩:=alQ I r v;refine ⟨.ref b :: fs,KatTups.cons h1 h2 h3 rfl k1,by simp [k2],fun u hu=>?_⟩;rcases jq.mp hu with rfl | hu
    . cases rb with
      | @tup _ ys _ hb rbs eb =>
        obtain ⟨its,vi,⟨o2,q1,q2,_⟩,_⟩:=I.tuple hb;exact ⟨b,o2,rfl,q1,q2⟩
    . exact k3 u hu
theorem axT (I:Inv X pins σ H s) (hu:A.units+32 < cLine) {ks:List K3} {xs:List V} (r:bR X.K H (ks.map k3D) xs) (rv:Vals xs us) (l2:2<=us.length) {kf:Nat->Int} (hkf:∀ i j a b,ks[i]?=some a->ks[j]?=some b->ltK a b=decide (kf i < kf j)) :
    ∃ κ,(∀ Q:SortKind->Shared->Prop,Q κ s->wpAny (model X.prog X.w) A (keyKind' us.toArray) Q (fun _ _=>False) s)/\∀ i j (C:Bool->Shared->Prop),i < us.length->j < us.length->C (decide (kf i < kf j)) s->kas_ask X.prog X.w A κ us i j C s:=by
  obtain ⟨fs,k1,k2,k3⟩:=a8L I r rv;have lx:xs.length=ks.length:=by rw [← r.length,au]
  have len:us.length=ks.length:=by rw [← rv.length,lx]
  refine ⟨tuples' (Value.type "tuple" != Value.type "tuple"),fun Q hQ=>kat_kind k1 (by omega) (fun v hv=>?_) (by simp) hQ,fun i j C hi hj hC=>?_⟩
  . obtain ⟨b,o,rfl,q1,q2⟩:=k3 v hv;rw [← q2];exact (Looks.ld q1).andThen .now
  . have get:∀ i,i < us.length->∃ k v,ks[i]?=some k/\RD X.K H (k3D k) v/\RelV v (us.getD i Value.none):=fun i hi=>by
      obtain ⟨v,e1,rd⟩:=r.get (i:=i) (d:=k3D (ks[i]'(by omega))) (by simp [jo,dh (show i < ks.length by omega)]);obtain ⟨u,e2,ru⟩:=rv.get e1;exact ⟨_,v,dh (by omega),rd,by simpa [ud,e2] using ru⟩
    obtain ⟨ka,va,ea,ra,ua⟩:=get i hi;obtain ⟨kb,vb,eb,rb,ub⟩:=get j hj;obtain ⟨a,o,n,b,c,t,ga,h1,h2,h3,rb1,rc1⟩:=alQ I ra ua;obtain ⟨a',o',n',b',c',t',gb,g1,g2,g3,rb2,rc2⟩:=alQ I rb ub;rw [← hkf i j ka kb ea eb] at hC;unfold kas_ask;rw [ga,gb];rw [show (Value.type "tuple" != Value.type "tuple")=false by simp];obtain ⟨i1,p1,q1⟩:=a3N I rb1;obtain ⟨i2,p2,q2⟩:=a3N I rb2;obtain ⟨i3,p3,q3⟩:=a3N I rc1;obtain ⟨i4,p4,q4⟩:=a3N I rc2;refine kat_lt h1 h3 g1 g3 ?_;show KatLex X.prog X.w A false _ C [(.ref b,.ref b'),(.ref c,.ref c'),(.int ka.2.2 t,.int kb.2.2 t')] 0 s;unfold ltK at hC;have E1:=a1U I 8 A _ _ _ _ (.ref b) (.ref b') (by omega) (xP 7 ka.1) (xP 7 kb.1) rb1 rb2 rfl rfl;have E2:=a1U I 8 A _ _ _ _ (.ref c) (.ref c') (by omega) (xP 7 ka.2.1) (xP 7 kb.2.1) rc1 rc2 rfl rfl;rw [eqP,a8I] at E1 E2;refine kat_cons (E1 _ _ _ _ (kat_go (fun e=>kat_yes (kat_cons (E2 _ _ _ _ (kat_go (fun e2=>kat_yes (kat_cons (wpAny_eqBool_int (kat_go (fun e3=>kat_yes (kat_nil ?_)) fun e3=>kat_no (kat_one _ _ ?_))))) fun e2=>kat_no (kat_one _ _ (HT.a4H p3 p4 q3 q4 (by omega) ?_)))))) fun e=>kat_no (kat_one _ _ (HT.a4H p1 p2 q1 q2 (by omega) ?_))))
    . rw [if_pos (of_decide_eq_true e),if_pos (of_decide_eq_true e2)] at hC;have:ka.2.2=kb.2.2:=by simpa using e3
      rw [this] at hC;simpa using hC
    . rw [if_pos (of_decide_eq_true e),if_pos (of_decide_eq_true e2)] at hC;exact HT.ab2 _ _ _ _ _ _ _ _ _ _ hC
    . rw [if_pos (of_decide_eq_true e),if_neg (of_decide_eq_false e2)] at hC;exact hC
    . rw [if_neg (of_decide_eq_false e)] at hC;exact hC
end
end
section
open PySem.W
structure yK where
  qual:Str
  params:Arguments
  body:Expr
  scope:Scope
  x:Str
  pos:Pos
noncomputable def yR (qt:Bool) (P:Program) (w:World) (K:Fg) (mg:Str->Option Value) (base:Heap) (k:Nat) (c:yK) (sp:kJ):Prop :=
  ∀ (A:Around) (outer:List Env) (s:Shared) (H:Hp) (us:List Value) (vs:List V) (ds:List D) (d:D) (G:Gp) (R:fM) (E:XK) (f cc c':Addr) (pm ctv u:Value) (vv:V),cO qt k A->vG P w K mg base A outer s H->HR K H G->H f=some (vA (kla_obj "<lambda>" c.qual c.params c.body c.scope [(c.x,cc)] pm c' ctv))->lK H c' c.qual ->
    s.heap.IsCell cc (some u)->H cc=none->RelV vv u->RD K H d vv->Vals vs us->bR K H ds vs->sp (d :: ds) G R (fun _ _=>False) ->
    codeAny (model P w) A (.call (.ref f) ⟨us,[]⟩) (CR (iK P w) outer P w H s (fun v H'=>∃ d' G2,RD K H' d' v/\HR K H' G2/\R d' G2) E) s
noncomputable def spL (n m:Nat) (te:cF):kJ:=fun ds G R _=>ds.length=m/\te (fB n ds) G R
variable {c:yK}
theorem axU {w:World} {K:Fg} {k:Nat} (S:ScX N ps c.x c.scope) (rD:∀ y∈c.scope.names,y.1=c.x->y.2 ≠ .cell)
    (hb:∀ (cl:List (Str×Addr)) (pm cdv ctv:Value) (us:List Value),us.length=ps.length->bindArgs (kla_fn "<lambda>" c.qual c.params c.body c.scope cl pm cdv ctv) ⟨us,[]⟩=pure (ps.zip us))
    (hbody:∀ (f c' cc:Addr) (A:Around) (outer:List Env) (s:Shared) (H:Hp),cO qt k (A.deeper (fW c.qual c.scope s.heap.objs.size f (.ref c') [(c.x,cc)])) ->
      cI (cxX qt (iK P w) P w K mg base N c.qual c.scope f (.ref c') c.x cc A outer s H (fun _ _ _=>False)) c.body te) :
    yR qt P w K mg base (k+1) c (spL N.length (ps.length+1) te):=by
  intro A outer s H us vs ds d G R E f cc c' pm ctv u vv hr e0 g hf rc hc hH rv rd rvs rds hsp;obtain ⟨hl,hq⟩:=hsp;have hl':vs.length=ps.length:=by rw [← rds.length];simpa using hl
  refine ap8 S rD hr e0 hf rc hc hH rv (hb _ _ _ _ us (by rw [← rvs.length];exact hl')) rvs hl' (fun e s' z=>?_) fun hr2=>?_
  . obtain ⟨_,_,_,_,_,_,_,_,_,_,_,_,z⟩:=z;exact z
  . refine ⟨_,hbody f c' cc A outer s H hr2,fB N.length (d :: ds),G,_,?_,g,hq,fun v H' d' G' _ r1 g1 q1=>⟨d',G',r1,g1,q1⟩⟩;unfold fB start;rw [show (d :: ds).length=(vv :: vs).length by simp [rds.length]];exact SR.entry (.cons rd rds)
section
variable {X:Cx} {pins:List (Addr×Obj)} {σ:St} {H:Hp} {s:Shared} {h':Heap}
theorem Inv.alR {o:HO} (I:Inv X pins σ H s) (k:∀ b u,b ∉ ch->s.heap.get? b=some u->h'.get? b=some u) (hc:∀ b∈ch,nU X pins H b) (ha:a∈ch) (new:dG X.prog X.w (upd H a o) h' a o):Inv X pins σ (upd H a o) { s with heap:=h',toks:=t' }:=by
  have nit:∀ b u,H b=some u->b ∉ ch:=fun b u e z=>by rw [(hc b z).1] at e;cases e
  have fr:H a=none:=(hc a ha).1;have sn:Same H (upd H a o):=bH fr;refine I.step (g':=s.gens) (d':=s.drawn) (ch:=ch) (fun b hb=>?_) (fun b o _ _ hn e _=>k b o hn e) (fun b o _ _ hn e _=>⟨o.slots,k b o hn e⟩) (fun b u hn e n=>by rw [aJ (show b≠a from fun z=>hn (by rw [z];exact ha))];exact n) (fun b o hn e=>⟨o,k b o hn e⟩) (fun b xs e=>sn _ _ e) (fun b o u e=>sn _ _ e) (fun b ps e=>⟨#[],by rw [sn _ _ e];simp⟩) (fun m hm=>?_) (fun b u e=>?_) I.bare
  . obtain ⟨_,f1,_,f3,f4,f5⟩:=hc b hb;exact ⟨f3,f1,f4,f5⟩
  . obtain ⟨o,es,ep,ho,r⟩:=hm;exact ⟨o,es,ep,k _ o (fun z=>(hc _ z).2.1 rfl) ho,r⟩
  . by_cases hb:b=a
    . subst hb;rw [aF] at e;cases e;exact new
    . rw [aJ hb] at e;refine (I.hok b u e).stay (fun c v hcc q=>k c v ?_ q) (fun _ q=>sn _ _ q) fun _ _ q=>sn _ _ q;rcases hcc with z | z
      . rw [z];exact nit b u e
      . exact nit c _ z
theorem nU.nfr (I:Inv X pins σ H s) (h:nU X pins H b):b ∉ frs X.stack:=by
  rcases I.ok.stk with e | ⟨e,hf⟩
  . rw [e];exact h.2.2.1
  . rw [e];unfold frs;rw [vo,hf];intro z;rcases jq.mp z with z | z
    . exact h.2.1 z
    . exact h.2.2.1 z
theorem nU.un {o:Obj} (h:nU X pins H b) (e:s.heap.get? b=some o) (u:Un (frs X.stack) [] H H' s.heap s'.heap):nU X pins H' b:=⟨u.free b o e h.1 (by simp),h.2⟩
noncomputable def a2L (X:Cx) (c:yK) (f c' cc:Addr) (H:Hp):Prop:=(∃ ctv,H f=some (vA (kla_obj "<lambda>" c.qual c.params c.body c.scope [(c.x,cc)] ((X.mg "__name__").getD .none) c' ctv)))/\lK H c' c.qual
theorem a2L.un {c' cc:Addr} {fs ex:List Addr} {h1 h2:Heap} (l:a2L X c f c' cc H) (u:Un fs ex H H' h1 h2):a2L X c f c' cc H':=by
  obtain ⟨⟨ctv,e⟩,r⟩:=l;exact ⟨⟨ctv,u.dI _ _ _ e⟩,r.keep fun a o φ q=>u.dI _ _ _ q⟩
variable {qt:Bool} {k ix:Nat} {c:yK} {sp:kJ} {f c' cc:Addr} {vc:V} {dx:D}
theorem alS (LO:yR qt X.prog X.w X.K X.mg X.base k c sp) (hr:cO qt k X.A.in1.in1) (I:Inv X pins σ H s) (g:HR X.K H G) (la:a2L X c f c' cc H) (hcc:X.env.cells.lookup c.x=some cc) (hN:X.N[ix]?=some c.x) (hx:X.env.scope.names.lookup c.x=some .cell) (hv:σ[ix]?=some (some vc)) (rdc:RD X.K H dx vc) {v:V} (ru:RelV v u) (rd:RD X.K H d v) (q:sp [dx,d] G R (fun _ _=>False)) :
    wpAny (model X.prog X.w) X.A.in1.in1 (call (.ref f) [u]) (fun ku s'=>∃ kv H' kd G',Inv X pins σ H' s'/\Un (frs X.stack) [] H H' s.heap s'.heap/\RelV kv ku/\RD X.K H' kd kv/\HR X.K H' G'/\R kd G') (fun _ _=>False) s:=by
  obtain ⟨⟨ctv,hf⟩,rc⟩:=la;obtain ⟨m,hn,hl⟩:=I.loc;obtain ⟨uc,ruc,lk⟩:=hl ix c.x vc hN hv (.inr (.inl hx))
  have hcell:s.heap.IsCell cc (some uc):=by
    rcases lk with ⟨kl,_⟩ | ⟨_,c0,e0,z⟩
    . have kl:X.env.scope.names.lookup c.x=some .local:=kl;rw [hx] at kl;cases kl
    . rw [hcc] at e0;cases e0;exact z
  have e1:=I.env0;refine wpAny_call (codeAny_mono (LO X.A.in1.in1 X.stack s H [u] [v] [d] dx G R (fun _ _ _=>False) f cc c' _ ctv uc vc hr ⟨e1.frames,e1.mod,e1.bs,e1.bsz,e1.mQ,e1.frf,e1.hok,e1.bare,e1.hnd⟩ g hf rc hcell (I.fZ _ _ hcc) ruc rdc (.cons ru .nil) (.cons rd .nil) q) fun r s' hq=>?_);cases r with
  | error e =>
    obtain ⟨_,_,_,_,_,_,_,_,_,_,_,_,z⟩:=hq;exact z.elim
  | ok fl =>
    cases fl with
    | ret u =>
      obtain ⟨v,H',os,bare,un,hok,r,d',G2,r2,g2,q2⟩:=hq;exact ⟨v,H',d',G2,I.call' (ch:=[]) os un hok bare (fun b z=>absurd z (by simp)),un,r,r2,g2,q2⟩
    | next=>exact False.elim hq
    | brk=>exact False.elim hq
    | cont=>exact False.elim hq
end
noncomputable def zF (sp:kJ) (dx:D) (C:List D->Gp->Prop):List D->List D->Gp->Prop
  | [],ks,G=>C ks G
  | d :: ds,ks,G=>sp [dx,d] G (fun k G'=>zF sp dx C ds (ks++[k]) G') (fun _ _=>False)
theorem Vals.snoc {v:V} {u:Value} (h:RelV v u):∀ {vs:List V} {us:List Value},Vals vs us->Vals (vs++[v]) (us++[u])
  | _,_,.nil => .cons h .nil
  | _,_,.cons a r => .cons a (Vals.snoc h r)
theorem bR.snoc {K:Fg} {H:Hp} {d:D} {v:V} (h:RD K H d v):∀ {ds:List D} {vs:List V},bR K H ds vs->bR K H (ds++[d]) (vs++[v])
  | _,_,.nil => .cons h .nil
  | _,_,.cons a r => .cons a (bR.snoc h r)
structure KSt (X:Cx) (pins:List (Addr×Obj)) (σ:St) (H1:Hp) (c:yK) (f c' cc kS a:Addr) (e1:Nat) (ks:List D) (C:Gp->Prop) (s:Shared):Prop where
  ex:∃ H G kvs kus e,Inv X pins σ H s/\HR X.K H G/\Ts H1 H/\a2L X c f c' cc H/\nU X pins H kS/\nU X pins H a/\bR X.K H ks kvs/\Vals kvs kus/\s.heap.get? kS=some (seqObj "list" kus.toArray e)/\s.heap.get? a=some (seqObj "list" #[] e1)/\C G
theorem a8M {K:Fg} {H:Hp} {ds:List D} {xs:List V} (r:bR K H ds xs):∀ {l:List Nat},(∀ i∈l,i < ds.length)->bR K H (l.map fun i=>ds.getD i .non) (l.map fun i=>xs.getD i .non)
  | [],_ => .nil
  | i :: l,h=>by
    have hi:=h i (by simp);obtain ⟨v,e1,rd⟩:=r.get (dh hi);have e2:xs.getD i .non=v:=by simp [ud,e1]
    have e3:ds.getD i .non=ds[i]:=by simp [ud,hi]
    refine .cons ?_ (a8M r fun j hj=>h j (by simp [hj]));show RD K H (ds.getD i .non) (xs.getD i .non);rw [e2,e3];exact rd
noncomputable def a5G (ds ks:List D) (G:Gp) (R:fM):Prop:=∃ (k3:List K3) (kf:Nat->Int),ks=k3.map k3D/\(∀ i j a b,k3[i]?=some a->k3[j]?=some b->ltK a b=decide (kf i < kf j))/\(∀ i j,i < ds.length->j < ds.length->kf i=kf j->i=j) /\
  ∀ q:Array Nat,Pm ds.length q->Up kf q ds.length->∀ r,G r=none->R (.ref r) (aM G r (.lst (q.toList.map fun i=>ds.getD i .non)))
section
variable {X:Cx} {pins:List (Addr×Obj)} {σ:St} {H:Hp} {s:Shared} {qt:Bool} {k ix:Nat} {c:yK} {sp:kJ} {f c' cc:Addr} {vc:V} {dx:D}
theorem ae5 (LO:yR qt X.prog X.w X.K X.mg X.base k c sp) (hr:cO qt k X.A.in1.in1) (hu:X.A.units+64 < cLine) (I:Inv X pins σ H s) (g:HR X.K H G) (la:a2L X c f c' cc H) (hcc:X.env.cells.lookup c.x=some cc) (hN:X.N[ix]?=some c.x) (hx:X.env.scope.names.lookup c.x=some .cell) (hv:σ[ix]?=some (some vc)) (rdc:RD X.K H dx vc) {xs:List V} (rd:bR X.K H ds xs) (rv:Vals xs us) (ho:s.heap.get? a=some (seqObj "list" us.toArray n)) (fa:nU X pins H a) (h64:ds.length < 64) {Q:VK} (hk:zF sp dx (fun ks G2=>a5G ds ks G2 R) ds [] G)
    (kk:∀ v H' d G',Ts H H'->RD X.K H' d v->HR X.K H' G'->R d G'->Q v H') {P:PySem.Fin->Shared->Prop} {E:Value->Shared->Prop} (hP:∀ s',EP X pins σ Q (.ref a) s'->P (.done (.ret .none)) s') :
    wpAny (model X.prog X.w) X.A.in1.in1 (ksk_tree a (.ref f) false) P E s:=by
  have big:1000 < sizeLine:=by decide
  have lx:xs.length=ds.length:=rd.length.symm;have lu:us.length=ds.length:=by rw [← rv.length,lx]
  have la0:a < s.heap.objs.size:=cu ho;unfold ksk_tree;refine aj (listItems_at ho rfl ?_);refine aj (listUpdate_at ho rfl ?_ (by rw [bh];omega) (oh _));obtain ⟨e1,ho1⟩:∃ e1,(s.heap.update a (Obj.mapSeq fun _=>(#[]:Array Value))).get? a=some (seqObj "list" #[] e1):=⟨_,get?_update_seq ho fun _=>#[]⟩;refine aj (seqEpoch_at ho1 rfl ?_);refine aj (wpAny_newTuple ?_ (by show us.length<=_;omega));refine aj (wpAny_newList ?_ (oh _));refine wpAny_holding ?_;have s0:=iy.update s.heap a (Obj.mapSeq fun _=>(#[]:Array Value));have hkS:((s.heap.update a (Obj.mapSeq fun _=>(#[]:Array Value))).push (seqObj "tuple" us.toArray 0)).objs.size=s.heap.objs.size+1:=by rw [size_push',Heap.size_update]
  have kp:∀ b o,b ∉ [a]->s.heap.get? b=some o->(((s.heap.update a (Obj.mapSeq fun _=>(#[]:Array Value))).push (seqObj "tuple" us.toArray 0)).push (seqObj "list" #[] 0)).get? b=some o:=fun b o hb e=>ao _ (ao _ ((s0.2 b (by simpa using hb)).trans e));have okS:(((s.heap.update a (Obj.mapSeq fun _=>(#[]:Array Value))).push (seqObj "tuple" us.toArray 0)).push (seqObj "list" #[] 0)).get? ((s.heap.update a (Obj.mapSeq fun _=>(#[]:Array Value))).push (seqObj "tuple" us.toArray 0)).objs.size=some (seqObj "list" #[] 0):=dj _ rfl;have oa5:(((s.heap.update a (Obj.mapSeq fun _=>(#[]:Array Value))).push (seqObj "tuple" us.toArray 0)).push (seqObj "list" #[] 0)).get? a=some (seqObj "list" #[] e1):=ao _ (ao _ ho1);generalize eh:((s.heap.update a (Obj.mapSeq fun _=>(#[]:Array Value))).push (seqObj "tuple" us.toArray 0)).push (seqObj "list" #[] 0)=h5 at *;generalize ek:((s.heap.update a (Obj.mapSeq fun _=>(#[]:Array Value))).push (seqObj "tuple" us.toArray 0)).objs.size=kS at *;have I5:Inv X pins σ H { s with heap:=h5,toks:=s.toks }:=I.ag2 (ch:=[a]) kp (fun b hb=>by simp at hb;subst hb;exact fa);have fk:nU X pins H kS:=I.a3Y (by rw [hkS];exact Nat.le_succ _) (I.hok.fresh (by rw [hkS];exact Nat.le_succ _));have hka:kS≠a:=by rw [hkS];exact zm (Nat.lt_succ_of_lt la0)
  unfold ksk_rest;refine aj (wpAny_rule ?_);rw [List.forIn_toArray];refine aj (ksk_fold (fun i s'=>∃ ks,ks.length=i/\KSt X pins σ H c f c' cc kS a e1 ks (fun G'=>zF sp dx (fun ks G2=>a5G ds ks G2 R) (ds.drop i) ks G') s') us 0 { s with heap:=h5 } ⟨[],rfl,⟨H,G,[],[],0,I5,g,.refl H,la,fk,fa,.nil,.nil,okS,oa5,hk⟩⟩ ?step ?done)
  case step =>
    rintro j x s' hxj ⟨ks,hkl,⟨H',G',kvs,kus,e,J,g',ts,la',fk',fa',rk,vk,ok,oa,q⟩⟩;simp only [Nat.zero_add] at hkl q ⊢;obtain ⟨d,x',ed,rdd,ru⟩:=Vals.akL rd rv hxj;have hj:j < ds.length:=(cj.mp ed).1
    have edr:ds.drop j=d :: ds.drop (j+1):=by
      rw [wj hj,(cj.mp ed).2]
    rw [edr] at q;have lk:kus.length=ks.length:=by rw [← vk.length,← rk.length]
    refine aj (wpAny_attempt (wpAny_mono (alS LO hr J g' la' hcc hN hx hv (rdc.mono ts) ru (rdd.mono ts) q) (fun ku s'' he=>?_) fun _ _ hF=>hF.elim));obtain ⟨kv,H2,kd,G2,J2,un,rku,rkd,g2,q2⟩:=he
    try dsimp only
    have ok2:=un.keep kS _ ok fk'.1 (fk'.nfr J) (by simp);have oa2:=un.keep a _ oa fa'.1 (fa'.nfr J) (by simp);obtain ⟨c2,hc2⟩:∃ c2,(s''.heap.update kS (Obj.mapSeq (·.push ku))).get? kS=some (seqObj "list" (kus.toArray.push ku) c2):=⟨_,get?_update_seq ok2 (·.push ku)⟩;have sb:=iy.update s''.heap kS (Obj.mapSeq (·.push ku));refine aj (listUpdate_at ok2 rfl ?_ (by rw [bh];omega) (by rw [Array.size_push,bh];omega));have ts2:Ts H' H2:=⟨un.tups,un.dI⟩;have J3:=J2.ag2 (t':=s''.toks) (ch:=[kS]) (h':=s''.heap.update kS (Obj.mapSeq (·.push ku))) (fun b u hb e=>(sb.2 b (by simpa using hb)).trans e) (fun b hb=>by simp at hb;subst hb;exact fk'.un ok un);exact aq ⟨rfl,ks++[kd],by simp [hkl],⟨H2,G2,kvs++[kv],kus++[ku],c2,J3,g2,ts.trans ts2,la'.un un,fk'.un ok un,fa'.un oa un,bR.snoc rkd (rk.mono ts2),Vals.snoc rku vk,by simpa using hc2,(sb.2 a hka.symm).trans oa2,q2⟩⟩
  case done =>
    rintro s' ⟨ks,hkl,⟨H',G',kvs,kus,e,J,g',ts,la',fk',fa',rk,vk,ok,oa,q⟩⟩;rw [List.drop_of_length_le (by omega)] at q;obtain ⟨k3,kf,rfl,hkf,hd,hR⟩:=q;have lk:kus.length=us.length:=by rw [← vk.length,← rk.length];omega
    refine aj (listItems_at ok rfl ?_);unfold ksk_end;simp only [jh,if_false]
    have fin:∀ (st:SortSt) (q:Array Nat),Pm us.length q->Up kf q us.length->(arrOf st).map (·.2)=(q.toList.map fun i=>us.getD i Value.none).toArray->failedOf st=none->wpAny (model X.prog X.w) X.A.in1.in1 (ksk_tail a false e1 (.ref kS) st) P E s':=by
      intro st q PM U har hf;unfold ksk_tail;simp only [jh,if_false];refine aj (listUpdate_at ok rfl ?_ (by rw [bh];omega) (oh _));refine aj (wpAny_letGo ?_);have s1:=iy.update s'.heap kS (Obj.mapSeq fun _=>(#[]:Array Value));have na1:(s'.heap.update kS (Obj.mapSeq fun _=>(#[]:Array Value))).get? a=some (seqObj "list" #[] e1):=(s1.2 a hka.symm).trans oa;refine aj (seqEpoch_at na1 rfl ?_);rw [har];refine aj (listUpdate_at na1 rfl ?_ (oh _) (by rw [bh,au,uq,PM.size];omega));rw [hf];simp only [bne_self_eq_false,jh,if_false];have s2:=iy.update (s'.heap.update kS (Obj.mapSeq fun _=>(#[]:Array Value))) a (Obj.mapSeq fun _=>(q.toList.map fun i=>us.getD i Value.none).toArray);obtain ⟨c3,hc3⟩:∃ c3,((s'.heap.update kS (Obj.mapSeq fun _=>(#[]:Array Value))).update a (Obj.mapSeq fun _=>(q.toList.map fun i=>us.getD i Value.none).toArray)).get? a=some (seqObj "list" (q.toList.map fun i=>us.getD i Value.none).toArray c3):=⟨_,get?_update_seq na1 fun _=>(q.toList.map fun i=>us.getD i Value.none).toArray⟩;have hin:∀ i∈q.toList,i < ds.length:=fun i hi=>by rw [← lu];exact ni.mp (PM.perm.mem_iff.mp hi)
      have fr:H' a=none:=fa'.1;have sn:Same H' (upd H' a (.lst (q.toList.map fun i=>xs.getD i .non))):=bH fr;refine aq (hP _ ?_)
      have Jf:=J.alR (t':=s'.toks) (h':=(s'.heap.update kS (Obj.mapSeq fun _=>(#[]:Array Value))).update a (Obj.mapSeq fun _=>(q.toList.map fun i=>us.getD i Value.none).toArray)) (ch:=[kS,a]) (a:=a) (o := .lst (q.toList.map fun i=>xs.getD i .non)) (fun b u hb e=>by
        simp only [jq,yt,or_false,not_or] at hb;exact (s2.2 b hb.2).trans ((s1.2 b hb.1).trans e)) (fun b hb=>by
        simp only [jq,yt,or_false] at hb;rcases hb with rfl | rfl
        . exact fk'
        . exact fa') (by simp) ⟨by rw [au,uq,PM.size];omega,_,c3,a8F rv fun i hi=>by rw [lx];exact hin i hi,hc3⟩
      rw [lu] at PM U;exact ⟨.ref a,_,Jf,rfl,kk _ _ (.ref a) _ (ts.trans (.same sn)) (.ref a) (g'.put (u := .lst _) fr ⟨_,aF,(a8M rd hin).mono (ts.trans (.same sn))⟩) (hR q PM U a (iJ g' fr (uP Jf)))⟩
    by_cases c2:us.toArray.size < 2
    . rw [if_pos c2,if_pos c2];refine aj (aq ?_);rw [StateT.run_pure];refine aj (aq ?_);dsimp only;have c3:us.length < 2:=by simpa using c2
      refine fin _ (gk us.length).toArray ⟨by rw [bh,List.length_range],.refl _⟩ (fun i j hij hj=>by have:i=j:=(by omega);subst this;exact yp _) ?_ rfl;show (kus.toArray.zip us.toArray).map (·.2)=_
      have e1:(kus.toArray.zip us.toArray).map (·.2)=us.toArray:=by
        apply Array.ext
        . simp;omega
        . intro i h1 h2;simp
      rw [e1]
      have e2:(gk us.length).toArray.toList.map (fun i=>us.getD i Value.none)=us:=by
        apply List.ext_getElem (by simp);intro i h1 h2;simp [h2]
      rw [e2]
    . rw [if_neg c2,if_neg c2];have l2:2<=us.length:=by rw [bh] at c2;omega
      obtain ⟨κ,k1,k2⟩:=axT J (A:=X.A.in1.in1) (by show X.A.units+1+1+32 < cLine;omega) rk vk (by omega) hkf;refine aj (wpAny_mono (k1 (fun κ' s''=>κ'=κ/\s''=s') ⟨rfl,rfl⟩) (fun κ' s'' ⟨q1,q2⟩=>?_) fun _ _ z=>z.elim);subst q1;subst q2
      refine aj (wpAny_mono (kat_run (vs:=us) (Q:=fun st' s3=>s3=s''/\failedOf st'=none/\∃ q,Pm us.length q/\Up kf q us.length/\arrOf st'=q.map (kas_item (kus.toArray.zip us.toArray)))
        (G:=fun q s3=>s3=s''/\Pm us.length q/\Up kf q us.length) lk l2 (by omega) (fun p st' s3 a1 a2 a3 a4=>⟨a4.1,a3,p,a4.2.1,a4.2.2,a2⟩)
        (aqD (I:=fun s3=>s3=s'') (fun i j C s3 hi hj es hC=>by subst es;exact k2 i j C (by omega) (by omega) (hC _ rfl)) (fun i j hi hj=>hd i j (by omega) (by omega)) l2 rfl fun q s3 P u es=>⟨es,P,u⟩)) ?_ fun _ _ e=>e)
      rintro ⟨⟨⟩,st'⟩ s3 ⟨es,hf,q,PM,u,har⟩;subst es;dsimp only;exact fin st' q PM u (kat_snds lk har) hf
end
end
section
open PySem.W
section
variable {X:Cx} {qt:Bool} {k ix:Nat} {c:yK} {sp:kJ} {T cC cc:Addr} {e:Expr} {te:cF} {p pos kp:Pos}
noncomputable def aI0 (X:Cx) (T:Addr) (c:yK) (cc:Addr):TE:=fun σ H Q=>∃ ps,H T=some (.vB ps)/\rB H c.qual c.pos ps /\
  ∀ f c' ps' H',a2L X c f c' cc H'->H' T=some (.vB ps')->rB H' c.qual c.pos ps'->H f=none->(∀ b u,b≠T->H b=some u->H' b=some u)->Q (.ref f) H'
theorem aDD (hC:CodeHd X.base cC T) (hbt:X.base.BuiltinsAt X.mg T) (hcode:X.env.code = .ref cC) (hcl:closureFor c.scope X.env=pure [(c.x,cc)]) (hd:defaultsOf c.params X.env=([],[])) (hq:X.env.qual ++ "<lambda>" = c.qual) :
    PE X (.Lambda c.params c.body c.scope c.pos) (aI0 X T c cc):=by
  intro pins s σ H Q I h _tk;obtain ⟨ps,hT,st,h⟩:=h;refine kla_eval hd ?_;rw [hq];exact avT I hT st hC hbt hcode hcl fun f c' ctv ps' H' s' I' ff hf rc hT' st' kp=>⟨.ref f,H',I',rfl,h f c' ps' H' ⟨⟨ctv,hf⟩,rc⟩ hT' st' ff kp⟩
noncomputable def alU (te:cF) (T:Addr) (c:yK) (ix:Nat) (sp:kJ):cF:=fun ρ G R=>te ρ G fun x G1=>∃ l ds dx,x = .ref l/\bI G1 l=some ds/\ds.length < 64/\at3 ρ ix=some dx/\G1 T=some (.tab c.qual c.pos)/\zF sp dx (fun ks G2=>a5G ds ks G2 R) ds [] G1
theorem aqN (LO:yR qt X.prog X.w X.K X.mg X.base k c sp) (hr:cO qt k X.A.in1.in1) (hu:X.A.units+64 < cLine) (hg:Gl X "sorted") (hm:X.mg "sorted" = none) (hN:X.N[ix]?=some c.x) (hx:X.env.scope.names.lookup c.x=some .cell)
    (hcf:c.scope.names.filter (fun p=>p.2 == .free)=[(c.x,.free)]) (hC:CodeHd X.base cC T) (hbt:X.base.BuiltinsAt X.mg T) (hcode:X.env.code = .ref cC) (hd:defaultsOf c.params X.env=([],[])) (hq:X.env.qual ++ "<lambda>" = c.qual) (he:cI X e te)
    (hs:starEach [e] X.env=[(false,eval e X.env)]):cI X (.Call (.Name "sorted" p) [e] [⟨some "key",.Lambda c.params c.body c.scope c.pos,kp⟩] pos) (alU te T c ix sp):=by
  intro pins s σ H Q I h _tk;obtain ⟨ρ,G,R,sr,g,q,kk⟩:=h;have big:1000 < sizeLine:=by decide
  obtain ⟨cc,hcc⟩:=I.ok.has c.x (.inl hx);refine wpAny_Call_Name_kw (a3X I hg hm (u := .builtin "sorted") (by decide +kernel) ?_ (by decide) (by decide))
  have hA:=(sI he ab7 (by rw [hs];rfl)) pos pins s σ H (fun vs H1=>Ts H H1/\∃ ds G1,bR X.K H1 ds vs/\HR X.K H1 G1/\(match ds with
    | [y]=>∃ l ds dx,y = .ref l/\bI G1 l=some ds/\ds.length < 64/\at3 ρ ix=some dx/\G1 T=some (.tab c.qual c.pos)/\zF sp dx (fun ks G2=>a5G ds ks G2 R) ds [] G1
    | _=>False)) I ⟨ρ,G,(fun ds G1=>match ds with
    | [y]=>∃ l ds dx,y = .ref l/\bI G1 l=some ds/\ds.length < 64/\at3 ρ ix=some dx/\G1 T=some (.tab c.qual c.pos)/\zF sp dx (fun ks G2=>a5G ds ks G2 R) ds [] G1
    | _=>False),sr,g,q,fun vs H1 ds G1 t1 r1 g1 q1=>⟨t1,ds,G1,r1,g1,q1⟩⟩
  refine callWith_kw (cR hA fun us s1 ⟨vs,H1,I1,rr,t1,ds,G1,r1,g1,q1⟩=>?_) (by rw [hs];rfl) (by rw [hs];rfl) rfl rfl;split at q1
  . rename_i y;obtain ⟨l,ds,dx,rfl,e1,h64,hix,hGT,hk⟩:=q1;cases r1 with
    | @cons _ vy _ _ ry rn =>
      cases rn;cases rr with
      | @cons _ uy _ _ ru rn =>
        cases rn;cases ry;cases ru;obtain ⟨ps1,hT1,st1⟩:=g1 T _ hGT;refine cR (aoN (nm:=some "key") (kpos:=kp) (aDD (cc:=cc) hC hbt hcode (vP hcf hcc) hd hq) avE pos pins s1 σ H1 (fun zs H2=>∃ f c' ps',zs=[.ref f]/\a2L X c f c' cc H2/\H2 T=some (.vB ps')/\rB H2 c.qual c.pos ps'/\(∀ b u,b≠T->H1 b=some u->H2 b=some u)) I1 ⟨ps1,hT1,st1,fun f c' ps' H2 la hT2 st2 _ kp2=>⟨f,c',ps',rfl,la,hT2,st2,kp2⟩⟩) fun kvs s2 ⟨zs,H2,I2,rz,f,c',ps',ez,la,hT2,st2,kp2⟩=>?_;subst ez;cases rz with
        | @cons _ kv _ _ rk rn =>
          cases rn;cases rk;show wpAny _ _ (call (.builtin "sorted") [.ref l] [(Str.ofString "key",.ref f)]) _ _ s2;have ts:Ts H1 H2:=⟨fun a xs q0=>kp2 a _ (nR q0 hT1 (fun z=>by cases z)) q0,fun a o u q0=>kp2 a _ (nR q0 hT1 (fun z=>by cases z)) q0⟩
          have g2:HR X.K H2 G1:=fun a o q0=>by
            by_cases y:a=T
            . rw [y,hGT] at q0;cases q0;rw [y];exact ⟨ps',hT2,st2⟩
            . exact (g1 a o q0).keep ts fun u q=>kp2 a u y q
          obtain ⟨xs,hsq,rd⟩:=cJ g2 e1;obtain ⟨its,rv,pl,_⟩:=I2.list hsq;have li:its.length=ds.length:=by rw [← rv.length,← rd.length]
          obtain ⟨vc,hv,rdc⟩:=(sr.mono (t1.trans ts)).get hix;refine call_function_entry_kw kind_sorted plain_sorted entry_sorted (ksk_s1 _ _) ?_;unfold Builtin.«sorted»;refine aj (m:=checkCount "sorted" 1 1 _) (aq ?_);refine aj (collect_list pl.isList ?_ (by omega));refine aj (wpAny_newList ?_ (by omega));have sz:((s2.heap.push (seqObj "list" #[] 0)).update s2.heap.objs.size (Obj.mapSeq (·++its.toArray))).objs.size=s2.heap.objs.size+1:=by rw [Heap.size_update,size_push']
          have oL:(((s2.heap.push (seqObj "list" #[] 0)).update s2.heap.objs.size (Obj.mapSeq (·++its.toArray))).push (seqObj "list" its.toArray 0)).get? (s2.heap.objs.size+1)=some (seqObj "list" its.toArray 0):=by rw [← sz];exact dj _ rfl
          have kp:∀ b o,s2.heap.get? b=some o->(((s2.heap.push (seqObj "list" #[] 0)).update s2.heap.objs.size (Obj.mapSeq (·++its.toArray))).push (seqObj "list" its.toArray 0)).get? b=some o:=fun b o e=>ao _ (((iy.update (s2.heap.push (seqObj "list" #[] 0)) s2.heap.objs.size (Obj.mapSeq (·++its.toArray))).2 b (dw (cu e))).trans (ao _ e));show wpAny _ _ _ _ _ { s2 with heap:=((s2.heap.push (seqObj "list" #[] 0)).update s2.heap.objs.size (Obj.mapSeq (·++its.toArray))).push (seqObj "list" its.toArray 0) };rw [sz];refine aj (wpAny_holding (wpAny_call_entry_kw slot_list_sort ⟨_,oL,rfl⟩ entry_list_sort ?body (ksk_l1 _ _)))
          case body =>
            show wpAny (model X.prog X.w) X.A.in1.in1 (Builtin.«list.sort» ⟨[.ref (s2.heap.objs.size+1)],[(Str.ofString "key",.ref f)]⟩) _ _ _;rw [ksk_t1];exact ae5 LO hr hu (I2.kept (t':=s2.toks) kp) g2 la hcc hN hx hv rdc rd rv oL (I2.a3Y (Nat.le_succ _) (I2.hok.fresh (Nat.le_succ _))) h64 hk (fun v H' d G' t=>kk v H' d G' ((t1.trans ts).trans t)) fun s' ep=>⟨_,rfl,aq ⟨_,rfl,ep⟩⟩
  . exact q1.elim
end
end
section
open PySem.W
theorem agA {K:Fg} {H:Hp} {d:D} {v:V} (h:RD K H d v):∀ {ds:List D} {xs:List V} (j:Nat),bR K H ds xs->bR K H (ds.take j++d :: ds.drop j) (xs.take j++v :: xs.drop j)
  | [],_,j,.nil=>by simpa using bR.cons h .nil
  | _ :: _,_,0,r=>by simpa using bR.cons h r
  | _ :: _,_,j+1,.cons a r=>by simpa using bR.cons a (agA h j r)
theorem abX {v:V} {u:Value} (h:RelV v u):∀ {xs:List V} {us:List Value} (j:Nat),Vals xs us->Vals (xs.take j++v :: xs.drop j) (us.take j++u :: us.drop j)
  | [],_,j,.nil=>by simpa using Paired.cons h .nil
  | _ :: _,_,0,r=>by simpa using Paired.cons h r
  | _ :: _,_,j+1,.cons a r=>by simpa using Paired.cons a (abX h j r)
section
variable {X:Cx}
noncomputable def rM:RM3:=fun x xs G R=>match xs with
  | [.int i,z]=>a8B x G fun p ds=>∃ j:Nat,i=(j:Int)/\j<=ds.length/\ds.length < sizeLine/\R .non (aM G p (.lst (ds.take j++z :: ds.drop j)))
  | _=>False
theorem abY:vW X "list.insert" rM:=fun pins s σ H x xs vx vs u us G R Q I rx rs ru rv g q k=>by
  have big:sizeLine < 2 ^ 62:=by decide
  unfold rM at q;split at q
  . rename_i i z;obtain ⟨p,ds,ys,rfl,rfl,e,e1,r,j,ei,hj,hlt,q⟩:=abP rx g q;cases rs with
    | cons r1 rr =>
    cases rr with
    | @cons _ vz _ _ rz rr =>
    cases rr;cases r1;obtain rfl:u=Value.ref p:=ru;cases rv with
    | cons rv1 rv =>
    cases rv with
    | @cons _ uz _ _ rv2 rv =>
    cases rv;obtain ⟨t2,rfl⟩:=rv1;obtain ⟨hz,its,n,rvs,ho⟩:=(show dG X.prog X.w H s.heap p (.lst ys) from I.hok p _ e1);have hl:ds.length=ys.length:=r.length;have hl2:ys.length=its.length:=rvs.length
    have hf:Builtin.List.listFitsIndex i=true:=by
      rw [ei];unfold Builtin.List.listFitsIndex;simp;omega
    have hz':its.toArray.size<=sizeLine:=by rw [bh,← hl2];exact hz
    have mt:=PySem.AutoListH.list_insert_list_int_val_1 p its.toArray n i t2 uz (by rw [hf];decide) hz';refine call_meets PySem.F.slot_list_insert ⟨_,ho,rfl⟩ PySem.F.entry_list_insert (PySem.F.args_list_insert_3 _ _ _) mt ⟨ho,?_⟩;have hs:=iy.update s.heap p (Obj.mapSeq fun xs=>have k:=if i < 0 then (i+((xs.size:Nat):Int)).toNat else min i.toNat xs.size;(xs.extract 0 k).push uz++xs.extract k)
    obtain ⟨n',ho'⟩:∃ n',(s.heap.update p (Obj.mapSeq fun xs=>have k:=if i < 0 then (i+((xs.size:Nat):Int)).toNat else min i.toNat xs.size;(xs.extract 0 k).push uz++xs.extract k)).get? p=some (seqObj "list" (its.take j++uz :: its.drop j).toArray n'):=by
      have:=get?_update_seq ho fun xs=>have k:=if i < 0 then (i+((xs.size:Nat):Int)).toNat else min i.toNat xs.size;(xs.extract 0 k).push uz++xs.extract k
      have ek:(if i < 0 then (i+((its.toArray.size:Nat):Int)).toNat else min i.toNat its.toArray.size)=j:=by
        rw [ei,if_neg (by omega),bh];simp;omega
      have e:((its.toArray.extract 0 j).push uz++its.toArray.extract j)=(its.take j++uz :: its.drop j).toArray:=by
        apply vh.mp;simp
        first
          | done
          | exact yj (by simp)
      rw [ek,e] at this;exact ⟨_,this⟩
    have le:(ys.take j++vz :: ys.drop j).length<=sizeLine:=by
      simp;omega
    have tt:Ts H (upd H p (.lst (ys.take j++vz :: ys.drop j))) := .turn e1 (fun _ z=>nomatch z) (fun _ _ z=>nomatch z);exact ⟨.non,_,I.write (t':=s.toks) (x:=p) (e:=p) (o := .lst (ys.take j++vz :: ys.drop j)) (by rw [e1];exact True.intro) (.inl rfl) (fun b o hb z=>(hs.2 b hb).trans z) ⟨_,ho'⟩ ⟨le,_,n',abX rv2 j rvs,ho'⟩,rfl,k _ _ _ _ tt .non (g.turn (u := .lst _) tt ⟨_,aF,(agA rz j r).mono tt⟩) q⟩
  . exact q.elim
noncomputable def abZ:RM3:=fun x xs G R=>match xs with
  | [y,z]=>rH x y G fun a t kvs k=>t=false/\kvs.length < sizeLine/\(match gR kvs k with
    | some d=>R d G
    | none=>R z (aM G a (.lX t (a5A kvs k z))))
  | _=>False
theorem aDF (hu:X.A.units+64 < cLine):vW X "dict.setdefault" abZ:=by
  intro pins s σ H x xs vx vs u us G R Q I rx rs ru rv g q k;unfold abZ at q;split at q
  case h_2=>exact q.elim
  case h_1 y z =>
    cases rs with
    | cons ry rs =>
    cases rs with
    | @cons _ vz _ _ rz rs =>
    cases rs;cases rv with
    | @cons _ uy _ _ rvy rv =>
    cases rv with
    | @cons _ uz _ _ rvz rv =>
    cases rv;obtain ⟨a,kvs,kk,rfl,rfl,e1,_,⟨ht,hl,q⟩,dd⟩:=oE rx ry g q;obtain rfl:u=Value.ref a:=ru;rcases dd with ⟨k',ys,rfl,e,r,rfl⟩ | ⟨ks,ys,b,rfl,_⟩
    . obtain ⟨z1,hd,ws,rel,dc⟩:=afG I.hok e;have hw:=val_two sV (k:=k') r;have hv:=rel.val k';refine call_meetsIn PySem.F.slot_dict_setdefault dc.typeIs PySem.F.entry_dict_setdefault (PySem.F.args_dict_setdefault_3 _ _ _) (kt_meets_setdefault (aL X.prog X.w) a (a01 rvy) hd uz) ⟨ws,dc,by rw [← rel.length];exact z1,fun v hp=>?_,fun hn h' dc' hs=>?_⟩
      . rw [hp] at hv;cases e2:gR kvs (.inl k') with
        | none=>rw [hw.2 e2] at hv;exact (show False from hv).elim
        | some d =>
          rw [e2] at q;obtain ⟨v,e3,rd⟩:=hw.1 d e2;rw [e3] at hv;exact ⟨v,H,I.tok _,hv,k v H d G (.refl H) rd g q⟩
      . rw [hn] at hv;cases e2:gR kvs (.inl k') with
        | some d =>
          obtain ⟨v,e3,rd⟩:=hw.1 d e2;rw [e3] at hv;exact (show False from hv).elim
        | none =>
          rw [e2] at q;have tt:Ts H (upd H a (.dK (putK ys k' vz))) := .turn e (fun _ z=>nomatch z) (fun _ _ z=>nomatch z);have hl2:(putK ys k' vz).length<=sizeLine:=by have:=pP ys k' vz;rw [← r.length] at this;omega
          have he:∃ q,h'.get? a=some q:=let ⟨q,_,_,hq,_⟩:=dc';⟨q,hq⟩
          exact ⟨_,_,pQ (t':=_) (ob := .dK (putK ys k' vz)) I (by rw [e];exact True.intro) hs he (a95 hl2 hd (rel.put k' rvz) dc'),rvz,k _ _ z _ tt (rz.mono tt) (g.turn (u := .lX false _) tt (.inl ⟨rfl,_,aF,(a3J sV rz r).imp fun _ _ q=>⟨q.1,q.2.mono tt⟩⟩)) q⟩
    . cases ht
noncomputable def aiJ (x y:D) (F:fU) (ρ:aP) (G:Gp):Prop:=match x with
  | .ref a=>∃ (k:NK) (ks:List NK),y = .tup [.tup (k.1.map D.int),.int k.2]/\(G a=some (.nst ks)∨(G a=some (.lX true [])/\ks=[]))/\k ∉ ks/\ks.length < 1000/\F.nx ρ (aM G a (.nst (ks++[k])))
  | _=>False
noncomputable def a9Z (to ti tv:cF):bL:=fun F ρ G=>tv ρ G fun v G1=>to ρ G1 fun x G2=>ti ρ G2 fun y G3=>aiJ x y F ρ G3
theorem axV {i value:Expr} {ti:cF} (hu:X.A.units+64 < cLine) (ho:cI X o to) (hi:cI X i ti) (hv:cI X value tv) (hs:swapsWith value (some (.Subscript o i pos')) pos.line X.env=pure false):PS3 X (.Assign [.Subscript o i pos'] value pos) (a9Z to ti tv):=by
  intro pins s σ H D I h _tk;obtain ⟨ρ,G,F,sr,g,t,up⟩:=h;have big:1000 < sizeLine:=by decide
  refine wpAny_Assign_Subscript (cR (hv pins s σ H (fun v H1=>Ts H H1/\∃ d G1,RD X.K H1 d v/\HR X.K H1 G1/\to ρ G1 fun x G2=>ti ρ G2 fun y G3=>aiJ x y F ρ G3) I ⟨ρ,G,_,sr,g,t,fun v H1 d G1 t1 r1 g1 q1=>⟨t1,d,G1,r1,g1,q1⟩⟩) fun r s1 ⟨v,H1,I1,rv,t1,d,G1,rd,g1,q1⟩ =>
    cR (ho pins s1 σ H1 (fun v H2=>Ts H1 H2/\∃ x G2,RD X.K H2 x v/\HR X.K H2 G2/\ti ρ G2 fun y G3=>aiJ x y F ρ G3) I1 ⟨ρ,G1,_,sr.mono t1,g1,q1,fun v H2 d G2 t2 r2 g2 q2=>⟨t2,d,G2,r2,g2,q2⟩⟩) fun u s2 ⟨vx,H2,I2,rx,t2,x,G2,rdx,g2,q2⟩ =>
    cR (hi pins s2 σ H2 (fun v H3=>Ts H2 H3/\∃ y G3,RD X.K H3 y v/\HR X.K H3 G3/\aiJ x y F ρ G3) I2 ⟨ρ,G2,_,sr.mono (t1.trans t2),g2,q2,fun v H3 d G3 t3 r3 g3 q3=>⟨t3,d,G3,r3,g3,q3⟩⟩) fun iv s3 ⟨vy,H3,I3,ry,t3,y,G3,rdy,g3,q3⟩=>?_) hs
  cases x with
  | ref a =>
    obtain ⟨k,ks,rfl,e1,nk,lk,q3⟩:=q3;cases rdx;obtain rfl:u=Value.ref a:=rx;obtain ⟨b,rfl,ns⟩:=alE rdy;obtain rfl:iv=Value.ref b:=ry;obtain ⟨ys,mu,n1,n2,e4,hd,dd,hall⟩:=ae3 I3 g3 e1;have ly:ys.length=ks.length:=by rw [← e4,au]
    have an:atKey ys k=none:=by
      have:=a9W (k:=k) (xs:=ys);rw [e4,decide_eq_false nk] at this;simpa using this
    refine wpAny_setItem_heap (knd:=zA X.prog X.w) (by show X.A.units+1+8 < cLine;omega) (ag4 I3 ns) dd (fun h' dd' hs'=>?_) (by omega);rw [storedH_new an] at dd';obtain ⟨q0,es,ep,z1,z2,z3,z4,_,z5⟩:=dd'
    obtain ⟨o3,eo⟩:∃ o3,H3 a=some o3:=by
      cases e:H3 a with
      | none=>rw [e] at mu;exact mu.elim
      | some o3=>exact ⟨o3,rfl⟩
    have tt:Ts H3 (upd H3 a (.ext (avW X.prog X.w a (ys++[(k,b,r)])))) := .turn eo (fun xs z=>n1 xs (by rw [eo,z])) (fun o u z=>n2 o u (by rw [eo,z]));refine ⟨σ,_,pQ (t':=_) (ob := .ext (avW X.prog X.w a (ys++[(k,b,r)]))) I3 mu hs' ⟨q0,z1⟩ ⟨⟨hd,q0,es,ep,z1,z2,z3,z4,z5⟩,⟨q0,z1⟩,fun h1 h2 z kp=>?_⟩,up.nx ρ _ σ _ (sr.mono (((t1.trans t2).trans t3).trans tt)) (g3.turn (u := .nst (ks++[k])) tt ⟨X.prog,X.w,ys++[(k,b,r)],aF,by rw [jx,e4];rfl,fun x hx=>?_⟩) q3⟩
    . obtain ⟨y0,o1,es1,ep1,y1,y2⟩:=z;exact ⟨y0,o1,es1,ep1,kp _ y1,y2⟩
    . rcases qx.mp hx with hx | hx
      . exact (hall x hx).elim fun c w=>⟨c,tt.sqT w.1,tt.sqT w.2⟩
      . rw [kj] at hx;subst hx;exact ns.elim fun c w=>⟨c,tt.sqT w.1,tt.sqT w.2⟩
  | _=>exact q3.elim
end
end
end L2
namespace L4
open PySem PySem.Spec PyProof.Rows L2
inductive BF where
  | len | isi | min | max | sum
  deriving DecidableEq
inductive MK where
  | append | join | split | starts | count | aiK | insert
  deriving DecidableEq
inductive DM where
  | sdf | pop | sdk
  deriving DecidableEq
inductive GT where
  | con (d:D) | cls (a:Addr) | fn (sp:kJ) (n:Nat) (qt:Bool) | bf (b:BF) | bt (n:String) | kl (C:Addr) (sp:kJ) (dd:List D) | me (C:Addr) (m:Str) (sp:kJ) (dd:List D) | fl (C:Addr) (f:Str) | clo (c:a06) (sp:kJ) | fnP (sp:kJ) (n:Nat)
structure SI where
  N:List Str
  fl:List Bool
  lc:List Bool
  ce:List Bool
  gl:List (Str×GT)
  gv:List Bool
  calm:Bool
  need:Bool
mutual
inductive CE where
  | tix (k:Nat) (e:CE) | repl (e:CE) (y z:Str) | agB (ks:List Str) (es:CEs) | fre (i:Nat) | callC (i k:Nat) (e:CE) (es:CEs) | var (i:Nat) | con (d:D) | glo (k:Nat) | neg (a:CE) | alV (a:CE) | bin (o:Operator) (a b:CE) | cmp (o:CmpOp) (a b:CE) | chain (o o':CmpOp) (a b c:CE)
  | alW (es:CEs) | ifx (c:CT) (a b:CE) | tup (es:CEs) | lst (es:CEs) | dct | ix (a b:CE) | sl (a:CE) (lo hi:CO) | call (k:Nat) (es:CEs) | meth (m:MK) (o:CE) (es:CEs)
  | comp (fl gv:List Bool) (ci:CI) (cc:CC) (e:CE) | agC (n:Nat) (fl gv:List Bool) (ci:CI) (cc:CC) (e:CE) | din (neg:Bool) (a b:CE) | dgt (o e f:CE) | aqO | dm (m:DM) (o e:CE) (es:CEs)
inductive CEs where
  | nil | cons (e:CE) (r:CEs)
inductive CT where
  | cmp (o:CmpOp) (a b:CE) | chain (o o':CmpOp) (a b c:CE) | not (t:CT) | and (ts:CTs) | or (ts:CTs) | val (e:CE) | din (neg:Bool) (a b:CE)
inductive CTs where
  | nil | cons (t:CT) (r:CTs)
inductive CO where
  | none | some (e:CE)
inductive CI where
  | any (e:CE) | aa0 (e:CE)
inductive CC where
  | none | some (t:CT)
end
noncomputable abbrev SI.cmp (S:SI) (xs:List Str) (fl gv:List Bool):SI:=⟨xs++S.N,xs.map (fun _=>true)++fl,xs.map (fun _=>true)++S.N.map (fun _=>false),xs.map (fun _=>false)++fl,S.gl,gv,S.calm,false⟩
noncomputable def ae6:cF:=fun _ _ _=>False
noncomputable def atN:xK:=fun _ _ _=>False
noncomputable def NoX:aP->aY:=fun _ _ _=>False
noncomputable def atO:Operator->R3
  | .Add=>dH
  | .Sub=>yN
  | .Mult=>uQ
  | .FloorDiv=>cZ
  | .Mod=>cL
  | .Pow=>asZ
  | _=>fun _ _ _ _=>False
noncomputable def a5H:CmpOp->R3
  | .Eq=>v8
  | .NotEq=>a9I
  | .Lt=>ai7
  | .LtE=>akD
  | .Gt=>a74
  | .GtE=>aC1
  | .Is=>aw3
  | .IsNot=>akF
  | .In=>aCK
  | .NotIn=>sO
noncomputable def aJX:Bool->R3
  | true=>aCY
  | false=>aCX
noncomputable def aDI (K:Fg):BF->List D->Gp->fM->Prop
  | .len=>yO
  | .isi=>aN K
  | .min=>vZ
  | .max=>a9T
  | .sum=>ag1
noncomputable def axW (n:String):List D->Gp->fM->Prop:=if n = "int" then abG else if n = "list" then a4S else if n = "str" then atG else if n = "tuple" then a0G else fun _ _ _=>False
noncomputable def dmN:DM->Str
  | .sdf => "setdefault"
  | .sdk => "setdefault"
  | .pop => "pop"
noncomputable def dmR:DM->RM3
  | .sdf=>alG
  | .sdk=>abZ
  | .pop=>alH
noncomputable def mkT:MK->String
  | .append => "list"
  | .join => "str"
  | .split => "str"
  | .starts => "str"
  | .count => "list"
  | .aiK => "list"
  | .insert => "list"
noncomputable def mkR:MK->RM3
  | .append=>gC
  | .join=>a4Z
  | .split=>a3M
  | .starts=>rJ
  | .count=>xQ
  | .aiK=>a1Z
  | .insert=>rM
noncomputable def mkN:MK->Str
  | .append => "append"
  | .join => "join"
  | .split => "split"
  | .starts => "startswith"
  | .count => "count"
  | .aiK => "pop"
  | .insert => "insert"
noncomputable def axX (T:List (Str×GT)) (k:Nat):cF:=match T[k]? with
  | some (_,.con d)=>aV d
  | some (_,.cls a)=>aV (.ref a)
  | some (_,.bt n)=>aV (.ty n)
  | _=>ae6
noncomputable def axY (T:List (Str×GT)) (K:Fg) (ex:aP->aY) (k:Nat) (t:pL):cF:=match T[k]? with
  | some (_,.fn sp _ _)=>c7 sp ex t
  | some (_,.cls a)=>al5 a t
  | some (_,.bf b)=>gB (aDI K b) t
  | some (_,.bt n)=>gB (axW n) t
  | some (_,.kl C sp dd)=>ae1 C sp dd ex t
  | _=>ae6
noncomputable def axZ:Bool->R3
  | true=>a1Y
  | false=>atF
noncomputable def mCC (T:List (Str×GT)) (i k:Nat) (t:pL):cF:=match T[k]? with
  | some (_,.clo c sp)=>a9G i c sp t
  | _=>ae6
noncomputable def ay0 (T:List (Str×GT)) (k:Nat) (t:cF):cF:=match T[k]? with
  | some (_,.con (.tup ds))=>aqI ds t
  | _=>ae6
mutual
noncomputable def mE (T:List (Str×GT)) (K:Fg) (ex:aP->aY):CE->cF
  | .tix k e=>ay0 T k (mE T K ex e)
  | .repl e y z=>tM3 "str" rK (mE T K ex e) (aA (aV (.str y)) (aA (aV (.str z)) aC))
  | .agB ks es=>a9Y ks (mA T K ex es)
  | .fre i=>aB i
  | .callC i k e es=>mCC T i k (aA (mE T K ex e) (mA T K ex es))
  | .var i=>aB i
  | .con d=>aV d
  | .glo k=>axX T k
  | .neg a=>afU (mE T K ex a)
  | .alV a=>a4O (mE T K ex a)
  | .bin o a b=>aG (atO o) (mE T K ex a) (mE T K ex b)
  | .cmp o a b=>aG (a5H o) (mE T K ex a) (mE T K ex b)
  | .chain o o' a b c=>pR (a5H o) (a5H o') (mE T K ex a) (mE T K ex b) (mE T K ex c)
  | .alW es=>ay1 T K ex es
  | .ifx c a b=>ai6 (mT T K ex c) (mE T K ex a) (mE T K ex b)
  | .tup es=>gA (mA T K ex es)
  | .lst es=>lM (mA T K ex es)
  | .dct=>a9L
  | .ix a b=>aG cB (mE T K ex a) (mE T K ex b)
  | .sl a lo hi=>a0B (mE T K ex a) (mO T K ex lo) (mO T K ex hi)
  | .call k es=>axY T K ex k (mA T K ex es)
  | .meth m o .nil=>awW (mkT m) (mkR m) (mE T K ex o)
  | .meth m o (.cons e r)=>tM3 (mkT m) (mkR m) (mE T K ex o) (aA (mE T K ex e) (mA T K ex r))
  | .comp _ _ ci cc e=>zE (mI T K ex ci) (mC T K cc) (mE T K NoX e)
  | .agC n _ _ ci cc e=>afY n (mI T K ex ci) (mC T K cc) (mE T K NoX e)
  | .din neg a b=>aG (axZ neg) (mE T K ex a) (mE T K ex b)
  | .dgt o e f=>a3K (mE T K ex o) (mE T K ex e) (mE T K ex f)
  | .aqO=>a3H
  | .dm m o e es=>alF (dmR m) (mE T K ex o) (aA (mE T K ex e) (mA T K ex es))
noncomputable def mA (T:List (Str×GT)) (K:Fg) (ex:aP->aY):CEs->pL
  | .nil=>aC
  | .cons e r=>aA (mE T K ex e) (mA T K ex r)
noncomputable def ay1 (T:List (Str×GT)) (K:Fg) (ex:aP->aY):CEs->cF
  | .nil=>ae6
  | .cons e .nil=>mE T K ex e
  | .cons e (.cons e' r)=>zB (mE T K ex e) (ay1 T K ex (.cons e' r))
noncomputable def mOr (T:List (Str×GT)) (K:Fg) (ex:aP->aY):CEs->cF
  | .nil=>ae6
  | .cons e .nil=>mE T K ex e
  | .cons e (.cons e' r)=>asW (mE T K ex e) (mOr T K ex (.cons e' r))
noncomputable def mT (T:List (Str×GT)) (K:Fg) (ex:aP->aY):CT->xK
  | .cmp o a b=>bJ (aG (a5H o) (mE T K ex a) (mE T K ex b))
  | .chain o o' a b c=>bJ (pR (a5H o) (a5H o') (mE T K ex a) (mE T K ex b) (mE T K ex c))
  | .not t=>a4N (mT T K ex t)
  | .and ts=>alX T K ex ts
  | .or ts=>ay2 T K ex ts
  | .val e=>bJ (mE T K ex e)
  | .din neg a b=>bJ (aG (axZ neg) (mE T K ex a) (mE T K ex b))
noncomputable def alX (T:List (Str×GT)) (K:Fg) (ex:aP->aY):CTs->xK
  | .nil=>atN
  | .cons e .nil=>mT T K ex e
  | .cons e (.cons e' r)=>ab6 (mT T K ex e) (alX T K ex (.cons e' r))
noncomputable def ay2 (T:List (Str×GT)) (K:Fg) (ex:aP->aY):CTs->xK
  | .nil=>atN
  | .cons e .nil=>mT T K ex e
  | .cons e (.cons e' r)=>a9E (mT T K ex e) (ay2 T K ex (.cons e' r))
noncomputable def mO (T:List (Str×GT)) (K:Fg) (ex:aP->aY):CO->TO3
  | .none=>vO
  | .some e=>a4P (mE T K ex e)
noncomputable def mI (T:List (Str×GT)) (K:Fg) (ex:aP->aY):CI->TI3
  | .any e=>vX (mE T K ex e)
  | .aa0 e=>sS (aA (mE T K ex e) aC)
noncomputable def mC (T:List (Str×GT)) (K:Fg):CC->xK
  | .none=>vY
  | .some t=>mT T K NoX t
end
noncomputable def isStar:Expr->Bool
  | .Starred ..=>true
  | _=>false
noncomputable def isSlice:Expr->Bool
  | .Slice ..=>true
  | _=>false
noncomputable def dN:Expr->Bool
  | .Call (.Name id _) [] [] _=>id != ("super" : Str)
  | _=>true
noncomputable def isSet:Expr->Bool
  | .Set ..=>true
  | _=>false
noncomputable def ay3:BF->String
  | .len => "len"
  | .isi => "isinstance"
  | .min => "min"
  | .max => "max"
  | .sum => "sum"
noncomputable def atP:BF->Value
  | b => .builtin (ay3 b)
noncomputable def ae7:BF->Bool
  | .len=>true
  | .isi=>true
  | _=>false
noncomputable def a0H (S:SI):Bool:=(gk S.gl.length).any fun k=>S.gv[k]? == some true&&match S.gl[k]? with
  | some (y,.bt n)=>y == ("range" : Str)&&n == "range"
  | _=>false
noncomputable def ay4 (S:SI) (y:Str):Bool:=(gk S.N.length).any fun i=>S.N[i]? == some y&&S.ce[i]? == some true
noncomputable def aa1:List Str->Bool
  | []=>true
  | x :: r=>!r.contains x&&aa1 r
noncomputable def a2M:List Expr->Option (List Str)
  | []=>some []
  | .Name x _ :: r=>(a2M r).map (x :: ·)
  | _=>none
noncomputable def yS (S:SI) (xs:List Str) (scope:Scope) (fl gv:List Bool):Bool :=
  scope.kind == .function&&scope.names.all (fun y=>y.2 != .cell&&(y.2 != .local || scope.names.lookup y.1 == some .local)&&(y.2 != .free || ay4 S y.1)) &&
  xs.all (fun x=>scope.names.lookup x == some .local&&!S.N.contains x&&x != ("__debug__" : Str)&&x != ("__classdict__" : Str))&&aa1 xs &&
  S.N.all (fun y=>scope.names.lookup y != some .local) &&
  (gk S.N.length).all (fun i=>fl[i]? != some true || (S.fl[i]? == some true&&match S.N[i]? with
    | some y=>scope.names.lookup y == some .free
    | none=>false)) &&
  (gk S.gl.length).all (fun k=>gv[k]? != some true || match S.gl[k]? with
    | some (y,_)=>scope.names.lookup y == some .globalImplicit
    | none=>false)
noncomputable def atQ:D->Const->Bool
  | .int i,.int j=>i == j
  | .str s,.str t=>s == t
  | .bl b,.bool c=>b == c
  | .non,.none=>true
  | _,_=>false
noncomputable def plainT:Expr->Bool
  | .UnaryOp .Not _ _=>false
  | .BoolOp ..=>false
  | .IfExp ..=>false
  | .Compare ..=>false
  | _=>true
noncomputable def alY (S:SI) (k:Nat) (x:Str):Bool:=match S.gl[k]? with
  | some (y,.con _)=>y == x
  | some (y,.cls _)=>y == x
  | some (y,.bt _)=>y == x
  | _=>false
noncomputable def agE (S:SI) (k:Nat) (x:Str) (e:Bool):Bool:=match S.gl[k]? with
  | some (y,.fn _ _ qt)=>y == x&&(qt || S.calm)
  | some (y,.cls _)=>y == x
  | some (y,.bf b)=>y == x&&e&&(S.calm || ae7 b)
  | some (y,.bt _)=>y == x&&e
  | some (y,.kl _ _ _)=>y == x&&S.calm
  | _=>false
noncomputable def aK0:Expr->Option (Expr×Str×Bool)
  | .Call (.Attribute y n ap) [] [] cp=>some (y,n,ap.endLine == cp.line)
  | _=>none
noncomputable def aFL:Expr->Option (Str×Expr)
  | .Call (.Name x _) [z] [] _=>some (x,z)
  | _=>none
noncomputable def ay5 (S:SI) (k:Nat):Bool:=match S.gl[k]? with
  | some (_,.clo _ _)=>true
  | _=>false
noncomputable def ay6 (S:SI) (k:Nat) (x:Str):Bool:=match S.gl[k]? with
  | some (y,.con (.tup _))=>y == x
  | _=>false
noncomputable def lit:Expr->Option (Str×Nat×Pos)
  | .Constant (.str y) j p=>some (y,j,p)
  | _=>none
noncomputable def aqP (xs:List Expr) (y z:Str):Bool:=match xs with
  | [a,b]=>(lit a).any (fun q=>q.1 == y)&&(lit b).any (fun q=>q.1 == z)
  | _=>false
noncomputable def a5I:List Str->List (Option Expr)->Bool
  | [],[]=>true
  | k :: ks,some (.Constant (.str k') _ _) :: es=>k == k'&&a5I ks es
  | _,_=>false
mutual
noncomputable def kE (S:SI):CE->Expr->Bool
  | .fre i,.Name x _=>S.N[i]? == some x&&S.ce[i]? == some true&&x != ("__debug__" : Str)&&x != ("__classdict__" : Str)
  | .tix k e,.Call (.Attribute (.Name x _) n ap) [y] [] cp=>ay6 S k x&&S.gv[k]? == some true&&n == ("index" : Str)&&!isStar y&&ap.endLine == cp.line&&kE S e y
  | .repl e y z,.Call (.Attribute o n ap) xs [] cp=>aqP xs y z&&S.need&&n == ("replace" : Str)&&y != z&&dN o&&ap.endLine == cp.line&&kE S e o
  | .agB ks es,.Dict keys values _=>a5I ks keys&&pY S es values&&keys.length == values.length&&decide (keys≠[]/\keys.length<=15)
  | .callC i k e es,.Call (.Name x _) (y :: ys) [] _=>S.N[i]? == some x&&(S.fl[i]? == some true || (S.ce[i]? == some true&&x != ("__debug__" : Str)&&x != ("__classdict__" : Str)))&&S.calm&&ay5 S k&&!isStar y&&kE S e y&&pY S es ys
  | .var i,.Name x _=>S.N[i]? == some x&&S.fl[i]? == some true
  | .con d,.Constant c _ _=>atQ d c
  | .glo k,.Name x _=>S.gv[k]? == some true&&alY S k x
  | .neg a,.UnaryOp .USub e _=>kE S a e
  | .alV a,.UnaryOp .Not e _=>kE S a e
  | .bin o a b,.BinOp x o' y _=>o == o'&&kE S a x&&kE S b y
  | .cmp o a b,.Compare x [o'] [y] _=>o == o'&&!behindInMarks o' y&&kE S a x&&kE S b y
  | .chain o o' a b c,.Compare x [p,p'] [y,z] _=>o == p&&o' == p'&&!lastMarks [p,p'] [y,z]&&kE S a x&&kE S b y&&kE S c z
  | .alW es,.BoolOp .And xs _=>pY S es xs
  | .ifx c a b,.IfExp t x y _=>kT S c t&&kE S a x&&kE S b y
  | .tup es,.Tuple xs _ _=>pY S es xs
  | .lst es,.List xs _=>pY S es xs
  | .dct,.Dict [] [] _=>true
  | .ix a b,.Subscript x y _=>!isSlice y&&kE S a x&&kE S b y
  | .sl a lo hi,.Subscript x (.Slice l h none _) _=>kE S a x&&kO S lo l&&kO S hi h
  | .call k es,.Call (.Name x _) xs [] _=>pY S es xs&&S.gv[k]? == some true&&agE S k x (!xs.isEmpty)
  | .meth m o es,.Call (.Attribute y n ap) xs [] cp=>n == mkN m&&dN y&&ap.endLine == cp.line&&decide (xs.length < 30)&&kE S o y&&pY S es xs
  | .comp fl gv ci cc e,.ListComp elt [⟨.Name x _,iter,ifs,a⟩] scope _=>a == 0&&yS S [x] scope fl gv&&!isSet iter&&kI S false ci iter&&kC (S.cmp [x] fl gv) cc ifs&&kE (S.cmp [x] fl gv) e elt
  | .agC n fl gv ci cc e,.ListComp elt [⟨.Tuple es _ _,iter,ifs,a⟩] scope _=>S.calm&&a == 0&&(match a2M es with
    | some xs=>xs.length == n&&yS S xs scope fl gv&&!isSet iter&&kI S true ci iter&&kC (S.cmp xs fl gv) cc ifs&&kE (S.cmp xs fl gv) e elt
    | none=>false)
  | .din neg a b,.Compare x [o'] [y] _=>o' == (if neg then CmpOp.NotIn else CmpOp.In)&&!behindInMarks o' y&&kE S a x&&kE S b y
  | .dgt o e f,.Call (.Attribute y n ap) [x,z] [] cp=>n == ("get" : Str)&&dN y&&ap.endLine == cp.line&&!isStar x&&!isStar z&&kE S o y&&kE S e x&&kE S f z
  | .aqO,.Dict [] [] _=>true
  | .dm m o e es,.Call (.Attribute y n ap) (x :: xs) [] cp=>n == dmN m&&dN y&&ap.endLine == cp.line&&decide ((x :: xs).length < 30)&&kE S o y&&!isStar x&&kE S e x&&pY S es xs
  | _,_=>false
noncomputable def pY (S:SI):CEs->List Expr->Bool
  | .nil,[]=>true
  | .cons e r,x :: xs=>!isStar x&&kE S e x&&pY S r xs
  | _,_=>false
noncomputable def kT (S:SI):CT->Expr->Bool
  | .cmp o a b,.Compare x [o'] [y] _=>o == o'&&!behindInMarks o' y&&kE S a x&&kE S b y
  | .chain o o' a b c,.Compare x [p,p'] [y,z] _=>o == p&&o' == p'&&!lastMarks [p,p'] [y,z]&&kE S a x&&kE S b y&&kE S c z
  | .not t,.UnaryOp .Not e _=>kT S t e
  | .and ts,.BoolOp .And xs _=>kTs S ts xs
  | .or ts,.BoolOp .Or xs _=>kTs S ts xs
  | .din neg a b,.Compare x [o'] [y] _=>o' == (if neg then CmpOp.NotIn else CmpOp.In)&&!behindInMarks o' y&&kE S a x&&kE S b y
  | .val e,x=>plainT x&&kE S e x
  | _,_=>false
noncomputable def kTs (S:SI):CTs->List Expr->Bool
  | .nil,[]=>true
  | .cons e r,x :: xs=>kT S e x&&kTs S r xs
  | _,_=>false
noncomputable def kO (S:SI):CO->Option Expr->Bool
  | .none,none=>true
  | .some e,some x=>kE S e x
  | _,_=>false
noncomputable def kI (S:SI) (tt:Bool):CI->Expr->Bool
  | .any e,x=>kE S e x
  | .aa0 e,.Call (.Name r _) [y] [] _=>r == ("range" : Str)&&a0H S&&!isStar y&&kE S e y
  | _,_=>false
noncomputable def kC (S:SI):CC->List Expr->Bool
  | .none,[]=>true
  | .some t,[x]=>kT S t x
  | _,_=>false
end
end L4
namespace L4
open PySem PySem.Spec PyProof.Rows L2
variable {e:Expr}{env:Env}
theorem bA {es:List Expr} (h:isStar e=false):starEach (e :: es) env=(false,eval e env) :: starEach es env:=by
  cases e <;> first | rfl | (exact absurd (show true=false from h) (by decide))
theorem oF {S:SI} {env:Env} {pos:Pos}:∀ {cs:CEs} {xs:List Expr},pY S cs xs=true->(backTo pos (starEach xs env)).any (·.1)=false
  | .nil,[],_=>rfl
  | .nil,_ :: _,h=>absurd (show false=true from h) (by decide)
  | .cons _ _,[],h=>absurd (show false=true from h) (by decide)
  | .cons e r,x :: xs,h=>by
    have h':(!isStar x&&kE S e x&&pY S r xs)=true:=h;simp only [ak,cg] at h';rw [bA h'.1.1];show (false || (backTo pos (starEach xs env)).any (·.1))=false;rw [oF h'.2];rfl
theorem cT {o:Expr} {n:Str} (h:dN o=true):attributeBase o n env (eval o env)=eval o env:=by
  cases o with
  | Call f args kws pos =>
    cases f with
    | Name id p =>
      cases args with
      | nil =>
        cases kws with
        | nil =>
          have h':(id != ("super" : Str))=true:=h;unfold attributeBase;simp only [h',Bool.true_or,if_true]
        | cons _ _=>rfl
      | cons _ _=>cases kws <;> rfl
    | _=>rfl
  | _=>rfl
noncomputable abbrev BMv:List Value:=[.type "ValueError",.type "Exception",.type "BaseException",.type "object"]
noncomputable def ay8 (X:Cx) (cm:Bool) (x:Str):GT->Prop
  | .con d=>∃ u v,X.mg x=some u/\RelV v u/\∀ H,RD X.K H d v
  | .cls a=>X.mg x=some (.ref a)/\ju X.K a BMv "ValueError.__new__" = true
  | .fn sp n qt=>(qt=true∨cm=true)->∃ k f fd ps,cG qt X.prog X.w X.K X.mg X.base (iK X.prog X.w) k f fd ps (cY X.K sp)/\cO qt k X.A/\X.mg x=some (.ref f)/\jy X.K (.ref f)=true/\Binds X.K fd ps []
  | .bf b=>X.mg x=none/\bootBuiltins x=some (atP b)
  | .bt n=>X.mg x=none/\bootBuiltins x=some (.type n)
  | .kl C sp dd=>cm=true->∃ k f fd ps ds zX,Mk X.K C f/\cG false X.prog X.w X.K X.mg X.base (iK X.prog X.w) k f fd ps (cY X.K sp)/\cO false (k+1) X.A/\X.mg x=some (.ref C)/\Binds X.K fd ps ds/\Vals zX ds/\∀ H,bR X.K H dd zX
  | .me C m sp dd=>cm=true->∃ k f fd ps ds zX,Cls X.K C/\Meth X.K C m f/\cG false X.prog X.w X.K X.mg X.base (iK X.prog X.w) k f fd ps (cY X.K sp)/\cO false k X.A/\Binds X.K fd ps ds/\Vals zX ds/\∀ H,bR X.K H dd zX
  | .fl C f=>Cls X.K C/\ajT X.K C f
  | .clo c sp=>cm=true->∃ k,vQ false X.prog X.w X.K X.mg X.base k c sp/\cO false k X.A
  | .fnP sp n=>cm=true->∃ k f fd ps,abW false X.prog X.w X.K X.mg X.base (iK X.prog X.w) k f fd ps (cY X.K sp)/\cO false k X.A/\X.mg x=some (.ref f)/\jy X.K (.ref f)=true/\Binds X.K fd ps []
structure oG (X:Cx) (S:SI) (ex:aP->aY):Prop where
  N:X.N=S.N
  nd:X.N.Nodup
  vis:∀ (i:Nat) (x:Str),S.N[i]?=some x->S.fl[i]?=some true->Vis X.env.scope x/\(x == ("__debug__" : Str))=false/\(x == ("__classdict__" : Str))=false
  ce:∀ (i:Nat) (x:Str),S.N[i]?=some x->S.ce[i]?=some true->X.env.kindOf x=some .cell∨X.env.kindOf x=some .free
  gm:∀ (k:Nat) (x:Str) (g:GT),S.gl[k]?=some (x,g)->(S.gv[k]?=some true->Gl X x)/\(x == ("__debug__" : Str))=false/\x ≠ "__name__" /\ ay8 X S.calm x g
  hu:X.A.units+64 < cLine
  cm:S.calm=true->X.calm=true
  cat:Cat X ex
  nk:S.need=true->X.need=true
theorem oG.gl {X:Cx} {S:SI} {ex:aP->aY} (Q:oG X S ex) (k:Nat) (x:Str) (g:GT) (h:S.gl[k]?=some (x,g)) (hv:S.gv[k]?=some true):Gl X x/\(x == ("__debug__" : Str))=false/\x ≠ "__name__" /\ ay8 X S.calm x g :=
  ⟨(Q.gm k x g h).1 hv,(Q.gm k x g h).2⟩
section
variable {X:Cx} {S:SI} {ex:aP->aY}
theorem alZ:cI X e ae6:=fun _ _ _ _ _ _ ⟨_,_,_,_,_,z,_⟩=>z.elim
theorem aqQ {o:Operator}:a4M X (binaryOp o) (atO o):=by
  have no:∀ {f:Value->Value->Sem Value},a4M X f (fun _ _ _ _=>False):=fun {f}=>⟨fun _ _ _ _=>False,fun _ _ _ _ _ _ _ _ _ _ _ _ h=>h.elim,fun _ _ _ _ _ _ _ _ _ _ _ h _=>h.elim⟩;exact match o with
  | .Add=>aC2
  | .Sub=>aBX
  | .Mult=>aBY
  | .FloorDiv=>aw2
  | .Mod=>aBZ
  | .Pow=>aC0
  | .MatMult=>no
  | .Div=>no
  | .LShift=>no
  | .RShift=>no
  | .BitOr=>no
  | .BitXor=>no
  | .BitAnd=>no
theorem xR {o:CmpOp} (hu:X.A.units+64 < cLine):pO X (compareOp o) (a5H o):=by
  exact match o with
  | .Eq=>aHG hu
  | .NotEq=>aHH hu
  | .Lt=>aGU
  | .LtE=>aGX
  | .Gt=>aGV
  | .GtE=>aGW
  | .Is=>aGY
  | .IsNot=>aw4
  | .In=>aHK hu
  | .NotIn=>apT hu
theorem aDK {n:String}:cV X (.type n) (axW n):=by
  unfold axW;split
  . rename_i h;subst h;exact aCH
  . split
    . rename_i h;subst h;exact awP
    . split
      . rename_i h;subst h;exact aD7
      . split
        . rename_i h;subst h;exact aqG
        . exact fun _ _ _ _ _ _ _ _ _ _ _ _ _ _ h _=>h.elim
theorem am0 {qt:Bool} {k:Nat} {f:Addr} {fd:FuncData} {ps:List Str} {sp:kJ} {x:Str} {p pos:Pos} (F:cG qt X.prog X.w X.K X.mg X.base (iK X.prog X.w) k f fd ps (cY X.K sp)) (hr:cO qt k X.A) (hg:Gl X x) (hm:X.mg x=some (.ref f)) (hk:jy X.K (.ref f)=true) (hb:Binds X.K fd ps []) (hx:Cat X ex)
    (hdb:(x == ("__debug__" : Str))=false):cI X (.Call (.Name x p) [] [] pos) (c7 sp ex aC):=by
  intro pins s σ H Q I h _tk;obtain ⟨ρ,G,R,sr,g,q,kk⟩:=h;refine wpAny_Call_Name_kw (jX I hg hm ?_ hdb);refine PySem.W.callWith_K0 I.kIn hk ?_;exact afS (E:=a2I X.K (ex ρ)) F hr hb (fun e s' c=>hx.afR pins σ H s ρ e s' I sr c) I .nil (Q:=fun v H'=>∃ d G',RD X.K H' d v/\HR X.K H' G'/\R d G') ⟨[],G,R,ex ρ,.nil,g,q,fun v H' d G' r2 g2 q2=>⟨d,G',r2,g2,q2⟩,fun C H' G' g' q'=>⟨C,G',rfl,g',q'⟩⟩ fun v H' t2 ⟨d,G',r2,g2,q2⟩=>kk v H' d G' t2 r2 g2 q2
theorem oH {xs:List Expr} {cs:CEs} {cp:Pos} (h:pY S cs xs=true) (hl:xs.length < 30):((backTo cp (starEach xs X.env)).all (fun x=>!x.1)&&(backToKw cp (keywordEach [] X.env)).all (fun x=>x.1.isSome)
      && decide (xs.length+([]:List Keyword).length+(if ([]:List Keyword).isEmpty then 0 else 1) < 30))=true:=by
  have h1:(backTo cp (starEach xs X.env)).all (fun x=>!x.1)=true:=by
    rw [fj];intro y hy;have:=oF (env:=X.env) (pos:=cp) h;rw [List.any_eq_false] at this;have:=this y hy;simpa using this
  have h2:(decide (xs.length+([]:List Keyword).length+(if ([]:List Keyword).isEmpty then 0 else 1) < 30))=true:=decide_eq_true (by simpa using hl);rw [h1,h2];rfl
end
end L4
namespace L4
open PySem PySem.Spec PyProof.Rows L2
variable {j:Nat}{pos p:Pos}{e o:Expr}{x:Str}{es:List Expr}{m:MK}{to:cF}{cs:CEs}{xs:List Str}{env:Env}{scope:Scope}
section
variable {X:Cx} {S:SI} {ex:aP->aY}
theorem ay9 {d:D} {c:Const} (h:atQ d c=true):cI X (.Constant c j pos) (aV d):=by
  cases d <;> cases c <;> first | exact absurd (show false=true from h) (by decide) | skip
  . exact aBJ
  . have:=beq_iff_eq.mp h;subst this;exact aGQ
  . have:=beq_iff_eq.mp h;subst this;exact aBI
  . have:=beq_iff_eq.mp h;subst this;exact aBK
theorem ayA (h:plainT e=true):∀ whole,isTrue e X.env whole=(do let v ← whole;standAt e.pos;holding [v] (truthy v)):=by
  cases e with
  | UnaryOp op x p=>cases op <;> first | exact absurd (show false=true from h) (by decide) | (intro _;rfl)
  | BoolOp _ _ _=>exact absurd (show false=true from h) (by decide)
  | IfExp _ _ _ _=>exact absurd (show false=true from h) (by decide)
  | Compare _ _ _ _=>exact absurd (show false=true from h) (by decide)
  | _=>intro _;rfl
theorem aDL (h:isSlice e=false):a97 e:=by
  cases e with
  | Slice _ _ _ _=>exact absurd (show true=false from h) (by decide)
  | _=>intro _ _;rfl
theorem aDM (Q:oG X S ex) {k:Nat} {b:BF} (hk:S.gl[k]?=some (x,.bf b)) (hv:S.gv[k]?=some true) (hc:(S.calm || ae7 b)=true) {t:pL} (ha:PA3 X (e :: es) t) (he:isStar e=false) (hp:(backTo pos (starEach es X.env)).any (·.1)=false):cI X (.Call (.Name x p) (e :: es) [] pos) (gB (aDI X.K b) t):=by
  obtain ⟨h1,h2,h3,h4⟩:=Q.gl _ _ _ hk hv
  have cm:ae7 b=false->X.calm=true:=fun z=>by
    rw [z,Bool.or_false] at hc;exact Q.cm hc
  cases b with
  | len=>exact a09 aCG h1 h4.1 h4.2 ha h3 h2 (bA he) hp
  | isi=>exact a09 a9K h1 h4.1 h4.2 ha h3 h2 (bA he) hp
  | min=>exact a09 (axE (cm rfl)) h1 h4.1 h4.2 ha h3 h2 (bA he) hp
  | max=>exact a09 (axD (cm rfl)) h1 h4.1 h4.2 ha h3 h2 (bA he) hp
  | sum=>exact a09 (aCV (cm rfl)) h1 h4.1 h4.2 ha h3 h2 (bA he) hp
theorem aqR {ap cp:Pos} (ho:cI X o to) (hb:dN o=true) (hl:(ap.endLine == cp.line)=true):cI X (.Call (.Attribute o (mkN m) ap) [] [] cp) (awW (mkT m) (mkR m) to):=by
  cases m with
  | append=>exact a4U PySem.F.plainAttrs_list PySem.F.slot_list_append PySem.F.type_list_append abH ho (cT hb) hl
  | join=>exact a4U PySem.F.plainAttrs_str PySem.F.slot_str_join PySem.F.type_str_join al2 ho (cT hb) hl
  | split=>exact a4U PySem.F.plainAttrs_str PySem.F.slot_str_split PySem.F.type_str_split m_split ho (cT hb) hl
  | starts=>exact a4U PySem.F.plainAttrs_str PySem.F.slot_str_startswith PySem.F.type_str_startswith abV ho (cT hb) hl
  | count=>exact a4U PySem.F.plainAttrs_list PySem.F.slot_list_count PySem.F.type_list_count ag7 ho (cT hb) hl
  | aiK=>exact a4U PySem.F.plainAttrs_list PySem.F.slot_list_pop PySem.F.type_list_pop alL ho (cT hb) hl
  | insert=>exact a4U PySem.F.plainAttrs_list PySem.F.slot_list_insert PySem.F.type_list_insert abY ho (cT hb) hl
theorem am1 {t:pL} {ap cp:Pos} (ho:cI X o to) (ha:PA3 X (e :: es) t) (hb:dN o=true) (hl:(ap.endLine == cp.line)=true) (hk:pY S cs (e :: es)=true) (hn:(e :: es).length < 30) :
    cI X (.Call (.Attribute o (mkN m) ap) (e :: es) [] cp) (tM3 (mkT m) (mkR m) to t):=by
  have he:isStar e=false:=by
    cases cs with
    | nil=>exact absurd (show false=true from hk) (by decide)
    | cons c r =>
      have h':(!isStar e&&kE S c e&&pY S r es)=true:=hk;simp only [ak,cg] at h';exact h'.1.1
  have hp:(backTo cp (starEach es X.env)).any (·.1)=false:=by
    have:=oF (env:=X.env) (pos:=cp) hk;rw [bA he] at this;have z:(false || (backTo cp (starEach es X.env)).any (·.1))=false:=this;simpa using z
  cases m with
  | append=>exact adW PySem.F.plainAttrs_list PySem.F.slot_list_append PySem.F.type_list_append abH ho ha (cT hb) (oH hk hn) hl (bA he) hp
  | join=>exact adW PySem.F.plainAttrs_str PySem.F.slot_str_join PySem.F.type_str_join al2 ho ha (cT hb) (oH hk hn) hl (bA he) hp
  | split=>exact adW PySem.F.plainAttrs_str PySem.F.slot_str_split PySem.F.type_str_split m_split ho ha (cT hb) (oH hk hn) hl (bA he) hp
  | starts=>exact adW PySem.F.plainAttrs_str PySem.F.slot_str_startswith PySem.F.type_str_startswith abV ho ha (cT hb) (oH hk hn) hl (bA he) hp
  | count=>exact adW PySem.F.plainAttrs_list PySem.F.slot_list_count PySem.F.type_list_count ag7 ho ha (cT hb) (oH hk hn) hl (bA he) hp
  | aiK=>exact adW PySem.F.plainAttrs_list PySem.F.slot_list_pop PySem.F.type_list_pop alL ho ha (cT hb) (oH hk hn) hl (bA he) hp
  | insert=>exact adW PySem.F.plainAttrs_list PySem.F.slot_list_insert PySem.F.type_list_insert abY ho ha (cT hb) (oH hk hn) hl (bA he) hp
theorem aDN {m:DM} {t:pL} {ap cp:Pos} (hu:X.A.units+64 < cLine) (ho:cI X o to) (ha:PA3 X (e :: es) t) (hb:dN o=true) (hl:(ap.endLine == cp.line)=true) (hk:pY S cs (e :: es)=true) (hn:(e :: es).length < 30) :
    cI X (.Call (.Attribute o (dmN m) ap) (e :: es) [] cp) (alF (dmR m) to t):=by
  have he:isStar e=false:=by
    cases cs with
    | nil=>exact absurd (show false=true from hk) (by decide)
    | cons c r =>
      have h':(!isStar e&&kE S c e&&pY S r es)=true:=hk;simp only [ak,cg] at h';exact h'.1.1
  have hp:(backTo cp (starEach es X.env)).any (·.1)=false:=by
    have:=oF (env:=X.env) (pos:=cp) hk;rw [bA he] at this;have z:(false || (backTo cp (starEach es X.env)).any (·.1))=false:=this;simpa using z
  cases m with
  | sdf=>exact axP PySem.F.slot_dict_setdefault PySem.F.type_dict_setdefault (aD2 hu) ho ha (cT hb) (oH hk hn) hl (bA he) hp
  | sdk=>exact axP PySem.F.slot_dict_setdefault PySem.F.type_dict_setdefault (aDF hu) ho ha (cT hb) (oH hk hn) hl (bA he) hp
  | pop=>exact axP PySem.F.slot_dict_pop PySem.F.type_dict_pop (axQ hu) ho ha (cT hb) (oH hk hn) hl (bA he) hp
local macro_rules | `(tactic| walk_at "off")=>`(tactic| exact absurd (show false=true from by assumption) (by decide))
theorem ayB (Q:oG X S ex) {k:Nat} (h:kE S (.glo k) (.Name x p)=true):cI X (.Name x p) (axX S.gl k):=by
  have h':(S.gv[k]? == some true&&alY S k x)=true:=h;rw [ak] at h';obtain ⟨hv,h⟩:=h';have hv:=beq_iff_eq.mp hv;unfold alY at h;unfold axX;split at h
  . rename_i y d hk;have:=beq_iff_eq.mp h;subst this;obtain ⟨h1,h2,h3,u,v,h4,h5,h6⟩:=Q.gl _ _ _ hk hv;exact akC h1 h4 h5 h6 h2
  . rename_i y d hk;have:=beq_iff_eq.mp h;subst this;obtain ⟨h1,h2,h3,h4⟩:=Q.gl _ _ _ hk hv;exact akC h1 h4.1 (v := .ref d) rfl (fun _ => .ref _) h2
  . rename_i y d hk;have:=beq_iff_eq.mp h;subst this;obtain ⟨h1,h2,h3,h4⟩:=Q.gl _ _ _ hk hv;exact avY h1 h4.1 h4.2 h3 h2
  . exact absurd h (by decide)
theorem aqS (Q:oG X S ex) {k:Nat} {es:CEs} {xs:List Expr} (ha:PA3 X xs (mA S.gl X.K ex es)) (hk:pY S es xs=true) (hv:S.gv[k]?=some true) (h:agE S k x (!xs.isEmpty)=true):cI X (.Call (.Name x p) xs [] pos) (axY S.gl X.K ex k (mA S.gl X.K ex es)):=by
  unfold agE at h;unfold axY
  have one:∀ {e:Expr} {r:List Expr},xs=e :: r->isStar e=false/\(backTo pos (starEach r X.env)).any (·.1)=false:=fun {e r} z=>by
    subst z;cases es with
    | nil=>exact absurd (show false=true from hk) (by decide)
    | cons c cr =>
      have h':(!isStar e&&kE S c e&&pY S cr r)=true:=hk;simp only [ak,cg] at h';exact ⟨h'.1.1,oF h'.2⟩
  split at h
  . rename_i y sp n qt hg;rw [ak] at h;obtain ⟨h,hc⟩:=h;have:=beq_iff_eq.mp h;subst this;obtain ⟨h1,h2,h3,h4⟩:=Q.gl _ _ _ hg hv;obtain ⟨j,f,fd,ps,F,hr,hm,hkp,hb⟩:=h4 (qy _ _ |>.mp hc);cases xs with
    | nil =>
      cases es with
      | nil=>exact am0 F hr h1 hm hkp hb Q.cat h2
      | cons _ _=>exact absurd (show false=true from hk) (by decide)
    | cons e r=>exact apK F hr h1 hm hkp hb Q.cat ha h2 (bA (one rfl).1) (one rfl).2
  . rename_i y a hg;have:=beq_iff_eq.mp h;subst this;obtain ⟨h1,h2,h3,h4,h5⟩:=Q.gl _ _ _ hg hv;cases xs with
    | nil =>
      cases es with
      | nil=>exact axH PySem.F.excBase_ValueError (by decide) PySem.F.excBase_ValueError h1 h4 h5 h2
      | cons _ _=>exact absurd (show false=true from hk) (by decide)
    | cons e r=>exact aCZ PySem.F.excBase_ValueError (by decide) PySem.F.excBase_ValueError h1 h4 h5 ha h2 (bA (one rfl).1) (one rfl).2
  . rename_i y b hg;rw [ak,ak] at h;obtain ⟨⟨h,hc⟩,hcm⟩:=h;have:=beq_iff_eq.mp h;subst this;cases xs with
    | nil=>exact absurd (show false=true from hc) (by decide)
    | cons e r=>exact aDM Q hg hv hcm ha (one rfl).1 (one rfl).2
  . rename_i y n hg;rw [ak] at h;obtain ⟨h,hc⟩:=h;have:=beq_iff_eq.mp h;subst this;obtain ⟨h1,h2,h3,h4⟩:=Q.gl _ _ _ hg hv;cases xs with
    | nil=>exact absurd (show false=true from hc) (by decide)
    | cons e r=>exact akM aDK h1 h4.1 h4.2 ha h3 h2 (bA (one rfl).1) (one rfl).2
  . rename_i y C sp dd hg;rw [ak] at h;obtain ⟨h,hc⟩:=h;have:=beq_iff_eq.mp h;subst this;obtain ⟨h1,h2,h3,h4⟩:=Q.gl _ _ _ hg hv;obtain ⟨kk,f,fd,ps,ds,zX,q1,q2,q3,q4,q5,q6,q7⟩:=h4 hc;cases xs with
    | nil =>
      cases es with
      | nil=>exact al7 q1 q2 q3 h1 q4 q5 q6 q7 Q.cat h2
      | cons _ _=>exact absurd (show false=true from hk) (by decide)
    | cons e r=>exact aq9 q1 q2 q3 h1 q4 q5 q6 q7 Q.cat ha h2 (bA (one rfl).1) (one rfl).2
  . exact absurd h (by decide)
theorem oJ {names:List (Str×NameKind)} {y:Str} {k:NameKind} (h:names.lookup y=some k) :
    (names.map fun (n,k)=>if (k == .free&&env.scope.kind == .function&&env.kindOf n == some .cell) then (n,.cell) else (n,k)).lookup y=some k ∨
    (k = .free/\(names.map fun (n,k)=>if (k == .free&&env.scope.kind == .function&&env.kindOf n == some .cell) then (n,.cell) else (n,k)).lookup y=some .cell):=by
  induction names with
  | nil=>simp at h
  | cons p r ih =>
    obtain ⟨n,kd⟩:=p;rw [jf] at h;show List.lookup y ((if (kd == .free&&env.scope.kind == .function&&env.kindOf n == some .cell)=true then (n,NameKind.cell) else (n,kd)) :: _)=some k∨(k = .free/\List.lookup y ((if (kd == .free&&env.scope.kind == .function&&env.kindOf n == some .cell)=true then (n,NameKind.cell) else (n,kd)) :: _)=some .cell);cases hx:y == n with
    | true =>
      rw [hx] at h;have hkd:kd=k:=by simpa using h
      subst hkd;by_cases hc:(kd == .free&&env.scope.kind == .function&&env.kindOf n == some .cell)=true
      . rw [if_pos hc,jf,hx];refine .inr ⟨?_,rfl⟩;simp only [ak,beq_iff_eq] at hc;exact hc.1.1
      . rw [if_neg hc,jf,hx];exact .inl rfl
    | false =>
      rw [hx] at h;have z:=ih h;by_cases hc:(kd == .free&&env.scope.kind == .function&&env.kindOf n == some .cell)=true
      . rw [if_pos hc,jf,hx];exact z
      . rw [if_neg hc,jf,hx];exact z
theorem a8N:∀ {xs:List Str},aa1 xs=true->xs.Nodup
  | [],_=>a0a
  | x :: r,h=>by
    have h':(!r.contains x&&aa1 r)=true:=h;rw [ak] at h';exact uf.mpr ⟨by simpa using h'.1,a8N h'.2⟩
theorem a2N {fl gv:List Bool} (h:yS S xs scope fl gv=true) :
    scope.kind = .function/\(∀ y∈scope.names,y.2 ≠ .cell/\(y.2 = .local->scope.names.lookup y.1=some .local)/\(y.2 = .free->ay4 S y.1=true)) /\
    (∀ x∈xs,scope.names.lookup x=some .local/\x ∉ S.N/\(x == ("__debug__" : Str))=false/\(x == ("__classdict__" : Str))=false)/\xs.Nodup/\(∀ y∈S.N,scope.names.lookup y≠some .local) /\
    (∀ (i:Nat) (y:Str),S.N[i]?=some y->fl[i]?=some true->S.fl[i]?=some true/\scope.names.lookup y=some .free) /\
    ∀ (k:Nat) (y:Str) (g:GT),S.gl[k]?=some (y,g)->gv[k]?=some true->scope.names.lookup y=some .globalImplicit:=by
  unfold yS at h;simp only [ak] at h;obtain ⟨⟨⟨⟨⟨⟨h1,h2⟩,h3⟩,h4⟩,h5⟩,h8⟩,h9⟩:=h;refine ⟨beq_iff_eq.mp h1,fun y hy=>?_,fun x hx=>?_,a8N h4,fun y hy=>?_,fun i y e1 e2=>?_,fun k y g e1 e2=>?_⟩
  . have z:=fj.mp h2 y hy;simp only [ak,bne_iff_ne,ne_eq,qy,beq_iff_eq] at z;obtain ⟨⟨z1,z2⟩,z3⟩:=z;exact ⟨z1,fun e=>z2.resolve_left fun n=>n e,fun e=>z3.resolve_left fun n=>n e⟩
  . have z:=fj.mp h3 x hx;simp only [ak] at z;obtain ⟨⟨⟨z1,z2⟩,z3⟩,z4⟩:=z;exact ⟨beq_iff_eq.mp z1,by simpa using z2,by simpa using z3,by simpa using z4⟩
  . have z:=fj.mp h5 y hy;simpa using z
  . have z:=fj.mp h8 i (ni.mpr (cj.mp e1).1);rw [e2,e1] at z;simpa using z
  . have z:=fj.mp h9 k (ni.mpr (cj.mp e1).1);rw [e2,e1] at z;simpa using z
theorem jL (Q:oG X S ex) {fl gv:List Bool} (h:yS S xs scope fl gv=true):sU X xs scope:=by
  obtain ⟨h1,h2,h3,h4,h5,h8,h9⟩:=a2N h;refine ⟨h1,fun y hy=>(h2 y hy).1,fun y hy=>(h2 y hy).2.1,fun x hx=>(h3 x hx).1,fun y hy e=>?_,fun x hx=>by rw [Q.N];exact (h3 x hx).2.1,h4,by rw [Q.N];exact h5⟩;have z:=(h2 y hy).2.2 e;unfold ay4 at z;obtain ⟨i,_,z⟩:=List.any_eq_true.mp z;rw [ak] at z;exact Q.ce i y.1 (beq_iff_eq.mp z.1) (beq_iff_eq.mp z.2)
theorem am2 {X:Cx}:Cat X NoX:=⟨fun _ _ _ _ _ _ _ _ _ ⟨_,_,_,_,_,_,_,_,_,_,_,_,z⟩=>by obtain ⟨_,_,_,_,z⟩:=z;exact z.elim⟩
theorem a8O {α:Type} {xs ys:List α} {i:Nat} {y:α} (h:(xs++ys)[i]?=some y):(i < xs.length/\y∈xs)∨∃ j,i=xs.length+j/\ys[j]?=some y:=by
  by_cases c:i < xs.length
  . rw [qu c] at h;exact .inl ⟨c,jk h⟩
  . rw [qd (by omega)] at h;exact .inr ⟨i - xs.length,by omega,h⟩
theorem agF {α β:Type} {xs:List α} {f:α->β} {ys:List β}:(xs.map f++ys)[xs.length+j]?=ys[j]?:=by
  rw [qd (by simp)];congr 1;simp
theorem oG.cmp (Q:oG X S ex) {fl gv:List Bool} (h:yS S xs scope fl gv=true) (C:Addr) (s:Shared) (H:Hp) (fp:List Addr) (pins:List (Addr×Obj)):oG (iQ X xs scope C s H fp pins) (S.cmp xs fl gv) NoX:=by
  obtain ⟨h1,h2,h3,h4,h5,h8,h9⟩:=a2N h;refine ⟨by show xs++X.N=xs++S.N;rw [Q.N],ae0 (jL Q h) Q.nd,fun i y e1 e2=>?_,fun i y e1 e2=>?_,fun k y g e1=>?_,Q.hu,Q.cm,am2,fun z=>nomatch z⟩
  . rcases a8O e1 with ⟨_,m⟩ | ⟨j,rfl,e1'⟩
    . obtain ⟨a1,a2,a3,a4⟩:=h3 y m;exact ⟨.inl (lookup_relabel_local a1),a3,a4⟩
    . have e2':fl[j]?=some true:=agF.symm.trans e2;obtain ⟨a1,a2⟩:=h8 j y e1' e2';obtain ⟨_,b2,b3⟩:=Q.vis j y e1' a1;refine ⟨?_,b2,b3⟩;rcases oJ (env:=X.env) a2 with z | ⟨_,z⟩
      . exact .inr (.inr z)
      . exact .inr (.inl z)
  . rcases a8O e1 with ⟨c,m⟩ | ⟨j,rfl,e1'⟩
    . have e2':(xs.map (fun _=>false)++fl)[i]?=some true:=e2;rw [qu (by simpa using c)] at e2';simp at e2'
    . have e2':fl[j]?=some true:=agF.symm.trans e2;obtain ⟨a1,a2⟩:=h8 j y e1' e2';rcases oJ (env:=X.env) a2 with z | ⟨_,z⟩
      . exact .inr z
      . exact .inl z
  . obtain ⟨b1,b2,b3,b4⟩:=Q.gm k y g e1;refine ⟨fun e2=>?_,b2,b3,?_⟩
    . rcases oJ (env:=X.env) (h9 k y g e1 e2) with z | ⟨z,_⟩
      . exact z
      . cases z
    . cases g <;> exact b4
theorem ac0:∀ {es:List Expr} {xs:List Str},a2M es=some xs->Two (fun e x=>∃ p,e=Expr.Name x p) es xs
  | [],xs,h=>by
    have:xs=[]:=by simpa [a2M] using h.symm
    subst this;exact .nil
  | e :: es,xs,h=>by
    cases e with
    | Name x p =>
      have h':(a2M es).map (x :: ·)=some xs:=h;cases q:a2M es with
      | none=>rw [q] at h';cases h'
      | some r =>
        rw [q] at h';have:xs=x :: r:=by simpa using h'.symm
        subst this;exact .cons ⟨p,rfl⟩ (ac0 q)
    | _=>exact absurd (show (none:Option (List Str))=some xs from h) (fun z=>nomatch z)
theorem ac1 (Q:oG X S ex) (h:a0H S=true):Gl X "range" /\ X.mg "range" = none:=by
  unfold a0H at h;obtain ⟨k,_,h⟩:=List.any_eq_true.mp h;rw [ak] at h;obtain ⟨hv,h⟩:=h;split at h
  . rename_i y n e;rw [ak] at h;have:=beq_iff_eq.mp h.1;subst this;obtain ⟨g1,g2,g3,g4⟩:=Q.gl _ _ _ e (beq_iff_eq.mp hv);exact ⟨g1,g4.1⟩
  . exact absurd h (by decide)
theorem am3 {neg:Bool} {o:CmpOp} (hu:X.A.units+64 < cLine) (h:(o == (if neg then CmpOp.NotIn else CmpOp.In))=true):pO X (compareOp o) (axZ neg):=by
  have:=beq_iff_eq.mp h;subst this;cases neg with
  | true=>exact axL hu
  | false=>exact aD1 hu
theorem agG (h:isSet e=false):∀ x,foldedSetIterable e env x=pure x:=by
  cases e <;> first | (intro _;rfl) | exact absurd (show true=false from h) (by decide)
end
end L4
namespace L4
open PySem PySem.Spec PyProof.Rows L2
theorem aU {P:Prop} (h:false=true):P:=absurd h (by decide)
variable {y:Str}
theorem am4 {e:Expr} (h:(lit e).any (fun q=>q.1 == y)=true):∃ j p,e = .Constant (.str y) j p:=by
  unfold lit at h;split at h
  . rename_i z j p;have e:z=y:=by simpa using h
    subst e;exact ⟨j,p,rfl⟩
  . exact aU h
theorem aqT {xs:List Expr} {z:Str} (h:aqP xs y z=true):∃ j1 p1 j2 p2,xs=[.Constant (.str y) j1 p1,.Constant (.str z) j2 p2]:=by
  unfold aqP at h;split at h
  . rw [ak] at h;obtain ⟨j1,p1,rfl⟩:=am4 h.1;obtain ⟨j2,p2,rfl⟩:=am4 h.2;exact ⟨j1,p1,j2,p2,rfl⟩
  . exact aU h
theorem ac2:∀ {ks:List Str} {keys:List (Option Expr)},a5I ks keys=true->keys.all (·.isSome)=true/\ks.length=keys.length
  | [],[],_=>⟨rfl,rfl⟩
  | [],_ :: _,h=>aU h
  | _ :: _,[],h=>aU h
  | k :: ks,none :: keys,h=>aU h
  | k :: ks,some e :: keys,h=>by
    cases e with
    | Constant c j p =>
      cases c with
      | str k' =>
        have h':(k == k'&&a5I ks keys)=true:=h;rw [ak] at h';have z:=ac2 h'.2;exact ⟨by simpa using z.1,by simp [z.2]⟩
      | _=>exact aU h
    | _=>exact aU h
mutual
theorem iI {X:Cx} {S:SI} {ex:aP->aY} (Q:oG X S ex):∀ (c:CE) (e:Expr),kE S c e=true->cI X e (mE S.gl X.K ex c)
  | .tix k c,e,h=>by
    cases e with
    | Call f xs kws p =>
      cases f with
      | Attribute o n ap =>
        cases o with
        | Name x q =>
          cases xs with
          | nil=>exact aU h
          | cons y ys =>
          cases ys with
          | cons _ _=>exact aU h
          | nil =>
          cases kws with
          | cons _ _=>exact aU h
          | nil =>
          have h':(ay6 S k x&&S.gv[k]? == some true&&n == ("index" : Str)&&!isStar y&&ap.endLine == p.line&&kE S c y)=true:=h;simp only [ak,cg] at h';obtain ⟨⟨⟨⟨⟨h1,h2⟩,h3⟩,h4⟩,h5⟩,h6⟩:=h';have e3:=beq_iff_eq.mp h3;subst e3;unfold ay6 at h1;split at h1
          . rename_i nm ds hg;have e1:=beq_iff_eq.mp h1;subst e1;obtain ⟨g1,g2,g3,u,v,g4,g5,g6⟩:=Q.gl _ _ _ hg (beq_iff_eq.mp h2);show cI X _ (ay0 S.gl k _);unfold ay0;rw [hg];exact aD9 g1 g4 g5 g6 (iI Q c y h6) (bA h4) h5 g2
          . exact aU h1
        | _=>exact aU h
      | _=>exact aU h
    | _=>exact aU h
  | .repl c y z,e,h=>by
    cases e with
    | Call f xs kws p =>
      cases f with
      | Attribute o n ap =>
        cases kws with
        | cons _ _=>exact aU h
        | nil =>
          have h':(aqP xs y z&&S.need&&n == ("replace" : Str)&&y != z&&dN o&&ap.endLine == p.line&&kE S c o)=true:=h;simp only [ak] at h';obtain ⟨⟨⟨⟨⟨⟨h0,h1⟩,h2⟩,h5⟩,h6⟩,h7⟩,h8⟩:=h';obtain ⟨j1,p1,j2,p2,rfl⟩:=aqT h0;have e2:=beq_iff_eq.mp h2;subst e2;exact axR (Q.nk h1) (by simpa using h5) (iI Q c o h8) (cT h6) h7
      | _=>exact aU h
    | _=>exact aU h
  | .agB ks es,e,h=>by
    cases e with
    | Dict keys values p =>
      have h':(a5I ks keys&&pY S es values&&keys.length == values.length&&decide (keys≠[]/\keys.length<=15))=true:=h;simp only [ak] at h';obtain ⟨⟨⟨h1,h2⟩,h3⟩,h4⟩:=h';have e3:=beq_iff_eq.mp h3;have e4:=of_decide_eq_true h4;have hk:=ac2 h1;exact aqK Q.hu hk.1 e3 e4.1 e4.2 (by rw [hk.2];exact e4.2) (okD Q es ks keys values h2 h1 e3)
    | _=>exact aU h
  | .fre i,e,h=>by
    cases e with
    | Name x p =>
      have h':(S.N[i]? == some x&&S.ce[i]? == some true&&x != ("__debug__" : Str)&&x != ("__classdict__" : Str))=true:=h;simp only [ak] at h';have e1:=beq_iff_eq.mp h'.1.1.1;have v:Vis X.env.scope x:=(Q.ce i x e1 (beq_iff_eq.mp h'.1.1.2)).elim (fun z => .inr (.inl z)) (fun z => .inr (.inr z));exact akB i (by rw [Q.N];exact e1) v (beq_eq_false_iff_ne.mpr (bne_iff_ne.mp h'.1.2)) (beq_eq_false_iff_ne.mpr (bne_iff_ne.mp h'.2))
    | _=>exact aU h
  | .callC i k c cs,e,h=>by
    cases e with
    | Call f xs kws p =>
      cases f with
      | Name x q =>
        cases xs with
        | nil=>exact aU h
        | cons y ys =>
        cases kws with
        | cons _ _=>exact aU h
        | nil =>
          have h':(S.N[i]? == some x&&(S.fl[i]? == some true || (S.ce[i]? == some true&&x != ("__debug__" : Str)&&x != ("__classdict__" : Str)))&&S.calm&&ay5 S k&&!isStar y&&kE S c y&&pY S cs ys)=true:=h;rw [ak,ak,ak,ak,ak,ak,qy,cg] at h';obtain ⟨⟨⟨⟨⟨⟨h1,h2⟩,h3⟩,h4⟩,h5⟩,h6⟩,h7⟩:=h';have e1:=beq_iff_eq.mp h1
          obtain ⟨v1,v2,v3⟩:Vis X.env.scope x/\(x == ("__debug__" : Str))=false/\(x == ("__classdict__" : Str))=false:=h2.elim (fun z=>Q.vis i x e1 (beq_iff_eq.mp z)) fun z=>by
            simp only [ak] at z;exact ⟨(Q.ce i x e1 (beq_iff_eq.mp z.1.1)).elim (fun z => .inr (.inl z)) (fun z => .inr (.inr z)),beq_eq_false_iff_ne.mpr (bne_iff_ne.mp z.1.2),beq_eq_false_iff_ne.mpr (bne_iff_ne.mp z.2)⟩
          unfold ay5 at h4;split at h4
          . rename_i nm cl sp hg;obtain ⟨_,_,_,h8⟩:=Q.gm k _ _ hg;obtain ⟨j,C,hr⟩:=h8 h3;show cI X _ (mCC S.gl i k (aA (mE S.gl X.K ex c) (mA S.gl X.K ex cs)));unfold mCC;rw [hg];exact apP C hr (Q.cm h3) (by rw [Q.N];exact e1) v1 v2 v3 (sI (iI Q c y h6) (okA Q cs ys h7) (bA h5)) (bA h5) (oF h7)
          . exact aU h4
      | _=>exact aU h
    | _=>exact aU h
  | .var i,e,h=>by
    cases e with
    | Name x p =>
      have h':(S.N[i]? == some x&&S.fl[i]? == some true)=true:=h;rw [ak] at h';have e1:=beq_iff_eq.mp h'.1;obtain ⟨v1,v2,v3⟩:=Q.vis i x e1 (beq_iff_eq.mp h'.2);exact akB i (by rw [Q.N];exact e1) v1 v2 v3
    | _=>exact aU h
  | .con d,e,h=>by
    cases e with
    | Constant c j p=>exact ay9 h
    | _=>exact aU h
  | .glo k,e,h=>by
    cases e with
    | Name x p=>exact ayB Q h
    | _=>exact aU h
  | .neg a,e,h=>by
    cases e with
    | UnaryOp op x p =>
      cases op with
      | USub=>exact aCF (iI Q a x h)
      | _=>exact aU h
    | _=>exact aU h
  | .alV a,e,h=>by
    cases e with
    | UnaryOp op x p =>
      cases op with
      | Not=>exact aBS (iI Q a x h)
      | _=>exact aU h
    | _=>exact aU h
  | .bin o a b,e,h=>by
    cases e with
    | BinOp x o' y p =>
      have h':(o == o'&&kE S a x&&kE S b y)=true:=h;simp only [ak] at h';have:=beq_iff_eq.mp h'.1.1;subst this;exact aGR aqQ (iI Q a x h'.1.2) (iI Q b y h'.2)
    | _=>exact aU h
  | .cmp o a b,e,h=>by
    cases e with
    | Compare x ops ys p =>
      match ops,ys,h with
      | [o'],[y],h =>
        have h':(o == o'&&!behindInMarks o' y&&kE S a x&&kE S b y)=true:=h;simp only [ak,cg] at h';have:=beq_iff_eq.mp h'.1.1.1;subst this;exact asU (xR Q.hu) (iI Q a x h'.1.2) (iI Q b y h'.2) h'.1.1.2
      | [],_,h=>exact aU h
      | _ :: _ :: _,_,h=>exact aU h
      | [_],[],h=>exact aU h
      | [_],_ :: _ :: _,h=>exact aU h
    | _=>exact aU h
  | .chain o o' a b c,e,h=>by
    cases e with
    | Compare x ops ys p =>
      match ops,ys,h with
      | [p1,p2],[y,z],h =>
        have h':(o == p1&&o' == p2&&!lastMarks [p1,p2] [y,z]&&kE S a x&&kE S b y&&kE S c z)=true:=h;simp only [ak,cg] at h';have e1:=beq_iff_eq.mp h'.1.1.1.1.1;have e2:=beq_iff_eq.mp h'.1.1.1.1.2;subst e1;subst e2;exact apC (xR Q.hu) (xR Q.hu) (iI Q a x h'.1.1.2) (iI Q b y h'.1.2) (iI Q c z h'.2) h'.1.1.1.2
      | [],_,h=>exact aU h
      | [_],_,h=>exact aU h
      | _ :: _ :: _ :: _,_,h=>exact aU h
      | [_,_],[],h=>exact aU h
      | [_,_],[_],h=>exact aU h
      | [_,_],_ :: _ :: _ :: _,h=>exact aU h
    | _=>exact aU h
  | .alW es,e,h=>by
    cases e with
    | BoolOp op xs p =>
      cases op with
      | And=>exact atU Q es xs p h
      | Or=>exact aU h
    | _=>exact aU h
  | .ifx c a b,e,h=>by
    cases e with
    | IfExp t x y p =>
      have h':(kT S c t&&kE S a x&&kE S b y)=true:=h;simp only [ak] at h';exact apE (okT Q c t h'.1.1) (iI Q a x h'.1.2) (iI Q b y h'.2)
    | _=>exact aU h
  | .tup es,e,h=>by
    cases e with
    | Tuple xs j p=>exact aBT (okA Q es xs h)
    | _=>exact aU h
  | .lst es,e,h=>by
    cases e with
    | List xs p=>exact aBU (okA Q es xs h)
    | _=>exact aU h
  | .dct,e,h=>by
    cases e with
    | Dict ks vs p =>
      match ks,vs,h with
      | [],[],_=>exact awX
      | _ :: _,_,h=>exact aU h
      | [],_ :: _,h=>exact aU h
    | _=>exact aU h
  | .ix a b,e,h=>by
    cases e with
    | Subscript x y p =>
      have h':(!isSlice y&&kE S a x&&kE S b y)=true:=h;simp only [ak,cg] at h';exact aGZ (iI Q a x h'.1.2) (iI Q b y h'.2) (aDL h'.1.1)
    | _=>exact aU h
  | .sl a lo hi,e,h=>by
    cases e with
    | Subscript x y p =>
      cases y with
      | Slice l u st q =>
        cases st with
        | none =>
          have h':(kE S a x&&kO S lo l&&kO S hi u)=true:=h;simp only [ak] at h';exact apU (iI Q a x h'.1.1) (okO Q lo l h'.1.2) (okO Q hi u h'.2)
        | some _=>exact aU h
      | _=>exact aU h
    | _=>exact aU h
  | .call k es,e,h=>by
    cases e with
    | Call f xs kws p =>
      cases f with
      | Name x q =>
        cases kws with
        | nil =>
          have h':(pY S es xs&&S.gv[k]? == some true&&agE S k x (!xs.isEmpty))=true:=h;simp only [ak] at h';exact aqS Q (okA Q es xs h'.1.1) h'.1.1 (beq_iff_eq.mp h'.1.2) h'.2
        | cons _ _=>exact aU h
      | _=>exact aU h
    | _=>exact aU h
  | .meth m o .nil,e,h=>by
    cases e with
    | Call f xs kws p =>
      cases f with
      | Attribute y n ap =>
        cases kws with
        | nil =>
          have h':(n == mkN m&&dN y&&ap.endLine == p.line&&decide (xs.length < 30)&&kE S o y&&pY S .nil xs)=true:=h;simp only [ak] at h';obtain ⟨⟨⟨⟨⟨h1,h2⟩,h3⟩,h4⟩,h5⟩,h6⟩:=h';have:=beq_iff_eq.mp h1;subst this;cases xs with
          | nil=>exact aqR (iI Q o y h5) h2 h3
          | cons _ _=>exact aU h6
        | cons _ _=>exact aU h
      | _=>exact aU h
    | _=>exact aU h
  | .meth m o (.cons c r),e,h=>by
    cases e with
    | Call f xs kws p =>
      cases f with
      | Attribute y n ap =>
        cases kws with
        | nil =>
          have h':(n == mkN m&&dN y&&ap.endLine == p.line&&decide (xs.length < 30)&&kE S o y&&pY S (.cons c r) xs)=true:=h;simp only [ak] at h';obtain ⟨⟨⟨⟨⟨h1,h2⟩,h3⟩,h4⟩,h5⟩,h6⟩:=h';have:=beq_iff_eq.mp h1;subst this;cases xs with
          | nil=>exact aU h6
          | cons x xs =>
            have h7:(!isStar x&&kE S c x&&pY S r xs)=true:=h6;simp only [ak,cg] at h7;exact am1 (iI Q o y h5) (sI (iI Q c x h7.1.2) (okA Q r xs h7.2) (bA h7.1.1)) h2 h3 h6 (of_decide_eq_true h4)
        | cons _ _=>exact aU h
      | _=>exact aU h
    | _=>exact aU h
  | .comp fl gv ci cc c,e,h=>by
    cases e with
    | ListComp elt gens scope p =>
      cases gens with
      | nil=>exact aU h
      | cons g gr =>
        cases gr with
        | cons _ _=>obtain ⟨tg,it,ifs,a⟩:=g;cases tg <;> exact aU h
        | nil =>
          obtain ⟨tg,it,ifs,a⟩:=g;cases tg with
          | Name x px =>
            have h':(a == 0&&yS S [x] scope fl gv&&!isSet it&&kI S false ci it&&kC (S.cmp [x] fl gv) cc ifs&&kE (S.cmp [x] fl gv) c elt)=true:=h;simp only [ak,cg] at h';obtain ⟨⟨⟨⟨⟨h2,h3⟩,h4⟩,h5⟩,h6⟩,h7⟩:=h';have:=beq_iff_eq.mp h2;subst this;exact a9P (jL Q h3) (fun C s H fp pins σ=>akW (jL Q h3) Q.nd) abM (okI (tt:=false) Q (fun z=>nomatch z) ci it h5) (fun C s H fp pins=>okC (Q.cmp h3 C s H fp pins) cc ifs h6) (fun C s H fp pins=>iI (Q.cmp h3 C s H fp pins) c elt h7) (agG h4)
          | _=>exact aU h
    | _=>exact aU h
  | .agC n fl gv ci cc c,e,h=>by
    cases e with
    | ListComp elt gens scope p =>
      cases gens with
      | nil=>exact aU h
      | cons g gr =>
        cases gr with
        | cons _ _=>obtain ⟨tg,it,ifs,a⟩:=g;cases tg <;> exact aU h
        | nil =>
          obtain ⟨tg,it,ifs,a⟩:=g;cases tg with
          | Tuple es k tp =>
            have h':(S.calm&&a == 0&&(match a2M es with
              | some xs=>xs.length == n&&yS S xs scope fl gv&&!isSet it&&kI S true ci it&&kC (S.cmp xs fl gv) cc ifs&&kE (S.cmp xs fl gv) c elt
              | none=>false))=true:=h
            rw [ak,ak] at h';obtain ⟨⟨h1,h2⟩,h'⟩:=h';have:=beq_iff_eq.mp h2;subst this;cases q:a2M es with
            | none=>rw [q] at h';exact aU h'
            | some xs =>
              rw [q] at h';simp only [ak,cg] at h';obtain ⟨⟨⟨⟨⟨h0,h3⟩,h4⟩,h5⟩,h6⟩,h7⟩:=h';have:=beq_iff_eq.mp h0;subst this;exact a9P (jL Q h3) (fun C s H fp pins σ=>ax7 (jL Q h3) Q.nd (Q.cm h1) (ac0 q)) (fun d ds e=>(afZ e).2) (okI (tt:=true) Q (fun _=>⟨Q.cm h1,_,_,_,rfl⟩) ci it h5) (fun C s H fp pins=>okC (Q.cmp h3 C s H fp pins) cc ifs h6) (fun C s H fp pins=>iI (Q.cmp h3 C s H fp pins) c elt h7) (agG h4)
          | _=>exact aU h
    | _=>exact aU h
  | .din neg a b,e,h=>by
    cases e with
    | Compare x ops ys p =>
      match ops,ys,h with
      | [o'],[y],h =>
        have h':(o' == (if neg then CmpOp.NotIn else CmpOp.In)&&!behindInMarks o' y&&kE S a x&&kE S b y)=true:=h;simp only [ak,cg] at h';exact asU (am3 Q.hu h'.1.1.1) (iI Q a x h'.1.2) (iI Q b y h'.2) h'.1.1.2
      | [],_,h=>exact aU h
      | _ :: _ :: _,_,h=>exact aU h
      | [_],[],h=>exact aU h
      | [_],_ :: _ :: _,h=>exact aU h
    | _=>exact aU h
  | .dgt c d f,e,h=>by
    cases e with
    | Call g as ks p =>
      cases g with
      | Attribute y n ap =>
        match as,ks,h with
        | [],_,h=>exact aU h
        | [_],_,h=>exact aU h
        | _ :: _ :: _ :: _,_,h=>exact aU h
        | [_,_],_ :: _,h=>exact aU h
        | [x,z],[],h =>
          have h':(n == ("get" : Str)&&dN y&&ap.endLine == p.line&&!isStar x&&!isStar z&&kE S c y&&kE S d x&&kE S f z)=true:=h;simp only [ak,cg] at h';obtain ⟨⟨⟨⟨⟨⟨⟨h0,h1⟩,h2⟩,h3⟩,h4⟩,h5⟩,h6⟩,h7⟩:=h';have:=beq_iff_eq.mp h0;subst this
          have k2:pY S (.cons d (.cons f .nil)) [x,z]=true:=by
            show (!isStar x&&kE S d x&&(!isStar z&&kE S f z&&true))=true;rw [h3,h4,h6,h7];rfl
          exact aqB Q.hu (iI Q c y h5) (iI Q d x h6) (iI Q f z h7) ⟨cT h1,oH (X:=X) (cp:=p) k2 (show 2 < 30 by decide),h2,by rw [bA h3,bA h4];rfl⟩
      | _=>exact aU h
    | _=>exact aU h
  | .aqO,e,h=>by
    cases e with
    | Dict ks vs p =>
      match ks,vs,h with
      | [],[],_=>exact apV
      | _ :: _,_,h=>exact aU h
      | [],_ :: _,h=>exact aU h
    | _=>exact aU h
  | .dm m o c r,e,h=>by
    cases e with
    | Call f xs kws p =>
      cases f with
      | Attribute y n ap =>
        match xs,kws,h with
        | [],_,h=>exact aU h
        | _ :: _,_ :: _,h=>exact aU h
        | x :: xs,[],h =>
          have h':(n == dmN m&&dN y&&ap.endLine == p.line&&decide ((x :: xs).length < 30)&&kE S o y&&!isStar x&&kE S c x&&pY S r xs)=true:=h;simp only [ak] at h';obtain ⟨⟨⟨⟨⟨⟨⟨h1,h2⟩,h3⟩,h4⟩,h5⟩,h6⟩,h7⟩,h8⟩:=h';have:=beq_iff_eq.mp h1;subst this
          have hk:pY S (.cons c r) (x :: xs)=true:=by
            show (!isStar x&&kE S c x&&pY S r xs)=true;rw [h6,h7,h8];rfl
          simp only [cg] at h6;exact aDN Q.hu (iI Q o y h5) (sI (iI Q c x h7) (okA Q r xs h8) (bA h6)) h2 h3 hk (of_decide_eq_true h4)
      | _=>exact aU h
    | _=>exact aU h
theorem okA {X:Cx} {S:SI} {ex:aP->aY} (Q:oG X S ex):∀ (c:CEs) (es:List Expr),pY S c es=true->PA3 X es (mA S.gl X.K ex c)
  | .nil,es,h=>by
    cases es with
    | nil=>exact ab7
    | cons _ _=>exact aU h
  | .cons c r,es,h=>by
    cases es with
    | nil=>exact aU h
    | cons x xs =>
      have h7:(!isStar x&&kE S c x&&pY S r xs)=true:=h;simp only [ak,cg] at h7;exact sI (iI Q c x h7.1.2) (okA Q r xs h7.2) (bA h7.1.1)
theorem atU {X:Cx} {S:SI} {ex:aP->aY} (Q:oG X S ex):∀ (c:CEs) (es:List Expr) (p:Pos),pY S c es=true->cI X (.BoolOp .And es p) (ay1 S.gl X.K ex c)
  | .nil,es,p,h=>alZ
  | .cons c .nil,es,p,h=>by
    match es,h with
    | [],h=>exact aU h
    | [x],h =>
      have h7:(!isStar x&&kE S c x&&pY S .nil [])=true:=h;simp only [ak,cg] at h7;exact asY (iI Q c x h7.1.2)
    | x :: y :: ys,h =>
      have h7:(!isStar x&&kE S c x&&pY S .nil (y :: ys))=true:=h;simp only [ak,cg] at h7;exact aU h7.2
  | .cons c (.cons c' r),es,p,h=>by
    match es,h with
    | [],h=>exact aU h
    | [x],h =>
      have h7:(!isStar x&&kE S c x&&pY S (.cons c' r) [])=true:=h;simp only [ak,cg] at h7;exact aU h7.2
    | x :: y :: ys,h =>
      have h7:(!isStar x&&kE S c x&&pY S (.cons c' r) (y :: ys))=true:=h;simp only [ak,cg] at h7;exact aBR (iI Q c x h7.1.2) (atU Q (.cons c' r) (y :: ys) p h7.2)
theorem aI6 {X:Cx} {S:SI} {ex:aP->aY} (Q:oG X S ex):∀ (c:CEs) (es:List Expr) (p:Pos),pY S c es=true->cI X (.BoolOp .Or es p) (mOr S.gl X.K ex c)
  | .nil,es,p,h=>alZ
  | .cons c .nil,es,p,h=>by
    match es,h with
    | [],h=>exact aU h
    | [x],h =>
      have h7:(!isStar x&&kE S c x&&pY S .nil [])=true:=h;simp only [ak,cg] at h7;exact asY (iI Q c x h7.1.2)
    | x :: y :: ys,h =>
      have h7:(!isStar x&&kE S c x&&pY S .nil (y :: ys))=true:=h;simp only [ak,cg] at h7;exact aU h7.2
  | .cons c (.cons c' r),es,p,h=>by
    match es,h with
    | [],h=>exact aU h
    | [x],h =>
      have h7:(!isStar x&&kE S c x&&pY S (.cons c' r) [])=true:=h;simp only [ak,cg] at h7;exact aU h7.2
    | x :: y :: ys,h =>
      have h7:(!isStar x&&kE S c x&&pY S (.cons c' r) (y :: ys))=true:=h;simp only [ak,cg] at h7;exact aGT (iI Q c x h7.1.2) (aI6 Q (.cons c' r) (y :: ys) p h7.2)
theorem okT {X:Cx} {S:SI} {ex:aP->aY} (Q:oG X S ex):∀ (c:CT) (e:Expr),kT S c e=true->PT3 X e (mT S.gl X.K ex c)
  | .cmp o a b,e,h=>by
    cases e with
    | Compare x ops ys p =>
      match ops,ys,h with
      | [o'],[y],h =>
        have h':(o == o'&&!behindInMarks o' y&&kE S a x&&kE S b y)=true:=h;simp only [ak,cg] at h';have:=beq_iff_eq.mp h'.1.1.1;subst this;exact asV (xR Q.hu) (iI Q a x h'.1.2) (iI Q b y h'.2) h'.1.1.2
      | [],_,h=>exact aU h
      | _ :: _ :: _,_,h=>exact aU h
      | [_],[],h=>exact aU h
      | [_],_ :: _ :: _,h=>exact aU h
    | _=>exact aU h
  | .chain o o' a b c,e,h=>by
    cases e with
    | Compare x ops ys p =>
      match ops,ys,h with
      | [p1,p2],[y,z],h =>
        have h':(o == p1&&o' == p2&&!lastMarks [p1,p2] [y,z]&&kE S a x&&kE S b y&&kE S c z)=true:=h;simp only [ak,cg] at h';have e1:=beq_iff_eq.mp h'.1.1.1.1.1;have e2:=beq_iff_eq.mp h'.1.1.1.1.2;subst e1;subst e2;exact apD (xR Q.hu) (xR Q.hu) (iI Q a x h'.1.1.2) (iI Q b y h'.1.2) (iI Q c z h'.2) h'.1.1.1.2
      | [],_,h=>exact aU h
      | [_],_,h=>exact aU h
      | _ :: _ :: _ :: _,_,h=>exact aU h
      | [_,_],[],h=>exact aU h
      | [_,_],[_],h=>exact aU h
      | [_,_],_ :: _ :: _ :: _,h=>exact aU h
    | _=>exact aU h
  | .not t,e,h=>by
    cases e with
    | UnaryOp op x p =>
      cases op with
      | Not=>exact aBQ (okT Q t x h)
      | _=>exact aU h
    | _=>exact aU h
  | .and ts,e,h=>by
    cases e with
    | BoolOp op xs p =>
      cases op with
      | And=>exact PW.pt (am5 Q ts xs p h)
      | Or=>exact aU h
    | _=>exact aU h
  | .or ts,e,h=>by
    cases e with
    | BoolOp op xs p =>
      cases op with
      | Or=>exact PW.pt (atV Q ts xs p h)
      | And=>exact aU h
    | _=>exact aU h
  | .din neg a b,e,h=>by
    cases e with
    | Compare x ops ys p =>
      match ops,ys,h with
      | [o'],[y],h =>
        have h':(o' == (if neg then CmpOp.NotIn else CmpOp.In)&&!behindInMarks o' y&&kE S a x&&kE S b y)=true:=h;simp only [ak,cg] at h';exact asV (am3 Q.hu h'.1.1.1) (iI Q a x h'.1.2) (iI Q b y h'.2) h'.1.1.2
      | [],_,h=>exact aU h
      | _ :: _ :: _,_,h=>exact aU h
      | [_],[],h=>exact aU h
      | [_],_ :: _ :: _,h=>exact aU h
    | _=>exact aU h
  | .val c,e,h=>by
    have h':(plainT e&&kE S c e)=true:=h;rw [ak] at h';exact aBM (iI Q c e h'.2) (ayA h'.1)
theorem am5 {X:Cx} {S:SI} {ex:aP->aY} (Q:oG X S ex):∀ (c:CTs) (es:List Expr) (p:Pos),kTs S c es=true->PW3 X (.BoolOp .And es p) (alX S.gl X.K ex c)
  | .nil,es,p,h=>fun _ _ _ _ _ _ _ ⟨_,_,_,_,_,z,_⟩=>z.elim
  | .cons c .nil,es,p,h=>by
    match es,h with
    | [],h=>exact aU h
    | [x],h =>
      have h7:(kT S c x&&kTs S .nil [])=true:=h;simp only [ak] at h7;exact aw0 (okT Q c x h7.1)
    | x :: y :: ys,h =>
      have h7:(kT S c x&&kTs S .nil (y :: ys))=true:=h;simp only [ak] at h7;exact aU h7.2
  | .cons c (.cons c' r),es,p,h=>by
    match es,h with
    | [],h=>exact aU h
    | [x],h =>
      have h7:(kT S c x&&kTs S (.cons c' r) [])=true:=h;simp only [ak] at h7;exact aU h7.2
    | x :: y :: ys,h =>
      have h7:(kT S c x&&kTs S (.cons c' r) (y :: ys))=true:=h;simp only [ak] at h7;exact aBP (okT Q c x h7.1) (am5 Q (.cons c' r) (y :: ys) p h7.2)
theorem atV {X:Cx} {S:SI} {ex:aP->aY} (Q:oG X S ex):∀ (c:CTs) (es:List Expr) (p:Pos),kTs S c es=true->PW3 X (.BoolOp .Or es p) (ay2 S.gl X.K ex c)
  | .nil,es,p,h=>fun _ _ _ _ _ _ _ ⟨_,_,_,_,_,z,_⟩=>z.elim
  | .cons c .nil,es,p,h=>by
    match es,h with
    | [],h=>exact aU h
    | [x],h =>
      have h7:(kT S c x&&kTs S .nil [])=true:=h;simp only [ak] at h7;exact aBO (okT Q c x h7.1)
    | x :: y :: ys,h =>
      have h7:(kT S c x&&kTs S .nil (y :: ys))=true:=h;simp only [ak] at h7;exact aU h7.2
  | .cons c (.cons c' r),es,p,h=>by
    match es,h with
    | [],h=>exact aU h
    | [x],h =>
      have h7:(kT S c x&&kTs S (.cons c' r) [])=true:=h;simp only [ak] at h7;exact aU h7.2
    | x :: y :: ys,h =>
      have h7:(kT S c x&&kTs S (.cons c' r) (y :: ys))=true:=h;simp only [ak] at h7;exact aGS (okT Q c x h7.1) (atV Q (.cons c' r) (y :: ys) p h7.2)
theorem okO {X:Cx} {S:SI} {ex:aP->aY} (Q:oG X S ex):∀ (c:CO) (e:Option Expr),kO S c e=true->PO3 X e (mO S.gl X.K ex c)
  | .none,e,h=>by
    cases e with
    | none=>exact aw5
    | some _=>exact aU h
  | .some c,e,h=>by
    cases e with
    | none=>exact aU h
    | some x=>exact aw6 (iI Q c x h)
theorem okI {X:Cx} {S:SI} {ex:aP->aY} (Q:oG X S ex) {tg:Expr} {tt:Bool} (htt:tt=true->X.calm=true/\∃ es kt pt,tg = .Tuple es kt pt):∀ (c:CI) (e:Expr),kI S tt c e=true->PI3 X tg e (mI S.gl X.K ex c)
  | .any c,e,h=>aCM (iI Q c e h)
  | .aa0 c,e,h=>by
    cases e with
    | Call f as ks p =>
      cases f with
      | Name r q =>
        cases as with
        | nil=>exact aU h
        | cons y yr =>
          cases yr with
          | cons _ _=>exact aU h
          | nil =>
            cases ks with
            | cons _ _=>exact aU h
            | nil =>
              have h':(r == ("range" : Str)&&a0H S&&!isStar y&&kE S c y)=true:=h;simp only [ak,cg] at h';obtain ⟨⟨⟨h1,h2⟩,h3⟩,h4⟩:=h';have:=beq_iff_eq.mp h1;subst this;obtain ⟨g1,g2⟩:=ac1 Q h2;exact ax2 g1 g2 (sI (iI Q c y h4) ab7 (bA h3)) (bA h3)
      | _=>exact aU h
    | _=>exact aU h
theorem okD {X:Cx} {S:SI} {ex:aP->aY} (Q:oG X S ex) {pos:Pos}:∀ (cs:CEs) (ks:List Str) (keys:List (Option Expr)) (vs:List Expr),pY S cs vs=true->a5I ks keys=true->keys.length=vs.length->PDs X pos keys vs ks (mA S.gl X.K ex cs)
  | .nil,ks,keys,vs,h,h2,h3=>by
    cases vs with
    | cons _ _=>exact aU h
    | nil =>
    cases keys with
    | cons _ _=>cases h3
    | nil =>
    cases ks with
    | cons _ _=>exact aU h2
    | nil=>exact aqJ
  | .cons c cs,ks,keys,vs,h,h2,h3=>by
    cases vs with
    | nil=>exact aU h
    | cons v vs =>
    have h':(!isStar v&&kE S c v&&pY S cs vs)=true:=h;simp only [ak] at h';cases keys with
    | nil=>cases h3
    | cons ke keys =>
    cases ks with
    | nil=>exact aU h2
    | cons k ks =>
    cases ke with
    | none=>exact aU h2
    | some e =>
    cases e with
    | Constant cc j p =>
      cases cc with
      | str k' =>
        have h2':(k == k'&&a5I ks keys)=true:=h2;rw [ak] at h2';have e0:=beq_iff_eq.mp h2'.1;subst e0;exact alO (iI Q c v h'.1.2) (okD Q cs ks keys vs h'.2 h2'.2 (Nat.succ.inj h3))
      | _=>exact aU h2
    | _=>exact aU h2
theorem okC {X:Cx} {S:SI} (Q:oG X S NoX):∀ (c:CC) (es:List Expr),kC S c es=true->aiD X es (mC S.gl X.K c)
  | .none,es,h=>by
    cases es with
    | nil=>exact apZ
    | cons _ _=>exact aU h
  | .some t,es,h=>by
    match es,h with
    | [],h=>exact aU h
    | [x],h=>exact aq0 (okT Q t x h)
    | _ :: _ :: _,h=>exact aU h
end
end L4
namespace L4
open PySem PySem.Spec PyProof.Rows L2
inductive CTg where
  | nm (i:Nat) | tup (is:List Nat)
mutual
inductive CS where
  | ret (e:CE) | expr (e:CE) | ifs (t:CT) (a b:CB) | set (i:Nat) (e:CE)
  | raise (k:Nat) (e:CE) (es:CEs) | aqV (k i:Nat) (b h:CB) | pass
  | setC (i:Nat) (fl gv:List Bool) (ci:CI) (cc:CC) (e:CE) | a5J (ci:CI) (tg:CTg) (b:CB)
  | aqW (is:List Nat) (e:CE) | aug (i:Nat) (neg:Bool) (e:CE) | aqX (t:CT) (b:CB) | aqY (o i e:CE)
inductive CB where
  | nil | cons (s:CS) (r:CB)
end
noncomputable def atX:bL:=fun _ _ _=>False
noncomputable abbrev SI.han (S:SI):SI:={ S with calm:=false,need:=false }
noncomputable def mIS (T:List (Str×GT)) (K:Fg) (ex:aP->aY):CI->TI3
  | .any e=>a9R (mE T K ex e)
  | .aa0 e=>sS (aA (mE T K ex e) aC)
noncomputable def mG:CTg->TG3
  | .nm i=>oA i
  | .tup is=>a4Y is
noncomputable def ayC:Bool->Int->Int->Int
  | true=>fun a b=>a - b
  | false=>fun a b=>a+b
noncomputable def aqZ (T:List (Str×GT)) (ex:aP->aY) (k:Nat) (t:pL):bL:=match T[k]? with
  | some (_,.cls a)=>pU ex a t
  | _=>atX
noncomputable def ar0 (T:List (Str×GT)) (K:Fg) (k i:Nat) (tb:(aP->aY)->bL) (th:bL):bL:=match T[k]? with
  | some (_,.cls a)=>abC K a i tb th
  | _=>atX
noncomputable def a8P (S:SI) (k:Nat) (x:Str):Bool:=match S.gl[k]? with
  | some (z,.cls _)=>z == x
  | _=>false
mutual
noncomputable def mS (T:List (Str×GT)) (K:Fg) (ex:aP->aY):CS->bL
  | .ret e=>dB (mE T K ex e)
  | .expr e=>nY (mE T K ex e)
  | .ifs t a b=>f9 (mT T K ex t) (mB T K ex a) (mB T K ex b)
  | .set i e=>bB i (mE T K ex e)
  | .raise k e es=>aqZ T ex k (aA (mE T K ex e) (mA T K ex es))
  | .aqV k i b h=>ar0 T K k i (fun EX2=>mB T K EX2 b) (mB T K NoX h)
  | .setC i _ _ ci cc e=>bB i (zE (mI T K ex ci) (mC T K cc) (mE T K NoX e))
  | .a5J ci tg b=>lY (mIS T K ex ci) (mG tg) (mB T K ex b)
  | .aqW is e=>a9S is (mE T K ex e)
  | .aug i neg e=>ag0 i (ayC neg) (mE T K ex e)
  | .aqX t b=>a3I (mT T K ex t) (mB T K ex b)
  | .aqY o i e=>a9Z (mE T K ex o) (mE T K ex i) (mE T K ex e)
  | .pass=>cM
noncomputable def mB (T:List (Str×GT)) (K:Fg) (ex:aP->aY):CB->bL
  | .nil=>cM
  | .cons s .nil=>mS T K ex s
  | .cons s (.cons s' r)=>aQ (mS T K ex s) (mB T K ex (.cons s' r))
end
noncomputable def isTup:Expr->Bool
  | .Tuple ..=>true
  | _=>false
noncomputable def sY:Expr->Bool
  | .ListComp ..=>true
  | .SetComp ..=>true
  | .DictComp ..=>true
  | _=>false
noncomputable def kTg (S:SI):CTg->Expr->Bool
  | .nm i,.Name x _=>S.N[i]? == some x&&S.fl[i]? == some true
  | .tup is,.Tuple es _ _=>kNs S is es
  | _,_=>false
where
  kNs (S:SI):List Nat->List Expr->Bool
  | [],[]=>true
  | i :: is,.Name x _ :: es=>S.N[i]? == some x&&S.fl[i]? == some true&&kNs S is es
  | _,_=>false
noncomputable def ayE (S:SI):CTg->Bool
  | .nm _=>true
  | .tup _=>S.calm
mutual
noncomputable def kS (S:SI) (lv:Nat):CS->Stmt->Bool
  | .ret e,.Return (some x) _=>kE S e x
  | .expr e,.Expr x _=>!sY x&&kE S e x
  | .ifs t a b,.If x y z _=>kT S t x&&kB S lv a y&&kB S lv b z
  | .set i e,.Assign [.Name x _] y _=>S.N[i]? == some x&&S.fl[i]? == some true&&!sY y&&kE S e y
  | .raise k e es,.Raise (some (.Call (.Name x _) (y :: ys) [] _)) none _=>lv == 0&&S.calm&&!isStar y&&kE S e y&&pY S es ys&&S.gv[k]? == some true&&a8P S k x
  | .aqV k i b h,.Try y [.ExceptHandler (some (.Name x _)) (some n) (z :: zs) _] [] [] _=>lv == 0&&S.calm&&S.N[i]? == some n&&S.lc[i]? == some true&&kB S 1 b y&&kB S.han 2 h (z :: zs)&&S.gv[k]? == some true&&a8P S k x
  | .setC i fl gv ci cc e,.Assign [.Name y _] (.ListComp elt [⟨.Name x _,iter,ifs,a⟩] scope _) _=>S.N[i]? == some y&&S.fl[i]? == some true&&a == 0&&yS S [x] scope fl gv&&!isSet iter&&kI S false ci iter&&kC (S.cmp [x] fl gv) cc ifs&&kE (S.cmp [x] fl gv) e elt
  | .aqW is e,.Assign [.Tuple es _ _] y _=>S.calm&&!isTup y&&!sY y&&kTg.kNs S is es&&kE S e y
  | .aug i neg e,.AugAssign (.Name x _) o y _=>S.N[i]? == some x&&S.fl[i]? == some true&&o == (if neg then Operator.Sub else Operator.Add)&&kE S e y
  | .aqY o i e,.Assign [.Subscript x y _] z _=>!isSlice y&&!sY z&&kE S o x&&kE S i y&&kE S e z
  | .aqX t b,.While x y [] _=>lv != 1&&kT S t x&&kB S lv b y
  | .a5J ci tg b,.For tgt iter body [] _=>lv != 1&&ayE S tg&&!isSet iter&&kTg S tg tgt&&kI S (isTup tgt&&S.calm) ci iter&&kB S lv b body
  | .pass,.Pass _=>true
  | _,_=>false
noncomputable def kB (S:SI) (lv:Nat):CB->List Stmt->Bool
  | .nil,[]=>true
  | .cons s r,x :: xs=>kS S lv s x&&kB S lv r xs
  | _,_=>false
end
structure a5K (X:Cx) (S:SI) (ex:aP->aY) (lv:Nat):Prop where
  si:oG X S ex
  loc:∀ (i:Nat) (x:Str),S.N[i]?=some x->S.fl[i]?=some true->Loc X.env.scope x
  lcl:∀ (i:Nat) (x:Str),S.N[i]?=some x->S.lc[i]?=some true->X.env.kindOf x=some .local
  fn:∀ (i:Nat) (x:Str),S.N[i]?=some x->S.fl[i]?=some true->X.fn x=true
  cls:∀ (k:Nat) (x:Str) (a:Addr),S.gl[k]?=some (x,.cls a)->S.gv[k]?=some true->ju X.K a BMv "ValueError.__new__" = true/\(jj X.K a).isSome=true/\jz X.K (.ref a)=some (.type "type")/\je X.K (.ref a) (.type "BaseException")=some true
  l0:lv≠1->PassesOwn (model X.prog X.w) X.A X.env X.xe
  rz:lv=0->S.calm=true->Thr X ex
  stk:X.stack=X.env :: X.outer
  frm:X.env.frame=some X.env.locals
variable {e:Expr}{env:Env}
theorem agH {t:Option Expr} {n:Nat} (h:sY e=false):swapsWith e t n env=pure false:=by
  cases e <;> first | rfl | exact absurd (show true=false from h) (by decide)
theorem ayF {es:List Expr} {k:Nat} {tp:Pos} (h:isTup e=false):swappedStores [.Tuple es k tp] e env=pure none:=by
  cases e <;> first | rfl | exact absurd (show true=false from h) (by decide)
variable {X:Cx}{S:SI}{ex:aP->aY}{lv:Nat}
theorem a5K.tr (Q:a5K X S ex lv) (pn:List (Addr×Obj)) (EX:aP->aY):a5K (apQ X pn EX) S EX 1 where
  si:=⟨Q.si.N,Q.si.nd,Q.si.vis,Q.si.ce,fun k x g h=>by
    obtain ⟨h1,h2,h3,h4⟩:=Q.si.gm k x g h;refine ⟨h1,h2,h3,?_⟩;cases g <;> exact h4,Q.si.hu,Q.si.cm,aH4 pn EX,Q.si.nk⟩
  loc:=Q.loc
  lcl:=Q.lcl
  fn:=Q.fn
  cls:=Q.cls
  l0:=fun z=>absurd rfl z
  rz:=fun z=>absurd z (by decide)
  stk:=Q.stk
  frm:=Q.frm
theorem a5K.ha (Q:a5K X S ex lv) (x:Addr):a5K (aiA X x) S.han NoX 2 where
  si:=⟨Q.si.N,Q.si.nd,Q.si.vis,Q.si.ce,fun k y g h=>by
    obtain ⟨h1,h2,h3,h4⟩:=Q.si.gm k y g h;refine ⟨h1,h2,h3,?_⟩;cases g with
    | fn sp n qt =>
      intro z;have hq:qt=true:=z.resolve_right (show ¬ (false=true) by decide);subst hq;obtain ⟨k,f,fd,ps,F,hr,r⟩:=h4 (.inl rfl);exact ⟨k,f,fd,ps,F,⟨(fun z=>nomatch z),hr.dp,hr.un⟩,r⟩
    | kl C sp dd=>exact fun z=>nomatch z
    | me C m sp dd=>exact fun z=>nomatch z
    | clo c sp=>exact fun z=>nomatch z
    | fnP sp n=>exact fun z=>nomatch z
    | _=>exact h4,Q.si.hu,fun z=>absurd (show false=true from z) (by decide),am2,fun z=>nomatch z⟩
  loc:=Q.loc
  lcl:=Q.lcl
  fn:=Q.fn
  cls:=Q.cls
  l0:=fun _=>PassesOwn.never
  rz:=fun z=>absurd z (by decide)
  stk:=Q.stk
  frm:=Q.frm
variable {x:Str}
theorem ac3 {k:Nat} (h:a8P S k x=true):∃ a,S.gl[k]?=some (x,.cls a):=by
  unfold a8P at h;split at h
  . rename_i z a hg;have:=beq_iff_eq.mp h;subst this;exact ⟨a,hg⟩
  . exact aU h
variable {T:List (Str×GT)}{a:Addr}
theorem ar3 {k:Nat} {t:pL} (h:T[k]?=some (x,.cls a)):aqZ T ex k t=pU ex a t:=by unfold aqZ;rw [h]
theorem ar4 {K:Fg} {k i:Nat} {tb:(aP->aY)->bL} {th:bL} (h:T[k]?=some (x,.cls a)):ar0 T K k i tb th=abC K a i tb th:=by unfold ar0;rw [h]
theorem am6 (Q:a5K X S ex lv) {k:Nat} {e:CE} {es:CEs} {y:Expr} {ys:List Expr} {np cp pos:Pos} (h:kS S lv (.raise k e es) (.Raise (some (.Call (.Name x np) (y :: ys) [] cp)) none pos)=true) :
    PS3 X (.Raise (some (.Call (.Name x np) (y :: ys) [] cp)) none pos) (aqZ S.gl ex k (aA (mE S.gl X.K ex e) (mA S.gl X.K ex es))):=by
  have h':(lv == 0&&S.calm&&!isStar y&&kE S e y&&pY S es ys&&S.gv[k]? == some true&&a8P S k x)=true:=h;simp only [ak,cg] at h';obtain ⟨⟨⟨⟨⟨⟨h0,hcm⟩,h1⟩,h2⟩,h3⟩,hv⟩,h⟩:=h';have hv:=beq_iff_eq.mp hv;obtain ⟨a,hg⟩:=ac3 h;rw [ar3 hg];have l1:=Q.si.cm hcm;have l2:=Q.rz (beq_iff_eq.mp h0) hcm;obtain ⟨g1,g2,g3,g4,g5⟩:=Q.si.gl _ _ _ hg hv;exact apL l1 PySem.F.excBase_ValueError (by decide) PySem.F.excBase_ValueError g1 g4 (Q.cls _ _ _ hg hv).1 l2 (sI (iI Q.si e y h2) (okA Q.si es ys h3) (bA h1)) g2 (bA h1) (oF h3)
theorem ae8 {X:Cx} {S:SI} {ex:aP->aY} {lv:Nat} (Q:a5K X S ex lv):∀ {is:List Nat} {es:List Expr},kTg.kNs S is es=true->Two (aq4 X) es is
  | [],[],_ => .nil
  | [],_ :: _,h=>by exact aU h
  | _ :: _,[],h=>by exact aU h
  | i :: is,e :: es,h=>by
    cases e with
    | Name x p =>
      have h':(S.N[i]? == some x&&S.fl[i]? == some true&&kTg.kNs S is es)=true:=h;simp only [ak] at h';have e1:=beq_iff_eq.mp h'.1.1;exact .cons ⟨x,p,rfl,by rw [Q.si.N];exact e1,Q.loc i x e1 (beq_iff_eq.mp h'.1.2),.inl (Q.fn i x e1 (beq_iff_eq.mp h'.1.2))⟩ (ae8 Q h'.2)
    | _=>exact aU h
theorem aDQ (Q:a5K X S ex lv):∀ {c:CTg} {e:Expr},ayE S c=true->kTg S c e=true->PG3 X e (mG c)
  | .nm i,e,_,h=>by
    cases e with
    | Name x p =>
      have h':(S.N[i]? == some x&&S.fl[i]? == some true)=true:=h;simp only [ak] at h';have e1:=beq_iff_eq.mp h'.1;exact ax5 Q.si.nd (by rw [Q.si.N];exact e1) (Q.loc i x e1 (beq_iff_eq.mp h'.2)) (.inl (Q.fn i x e1 (beq_iff_eq.mp h'.2)))
    | _=>exact aU h
  | .tup is,e,hc,h=>by
    cases e with
    | Tuple es k p=>exact atA Q.si.nd (Q.si.cm hc) (ae8 Q h)
    | _=>exact aU h
theorem aI7 (Q:oG X S ex) {tg:Expr} {tt:Bool} (htt:tt=true->X.calm=true/\∃ es kt pt,tg = .Tuple es kt pt):∀ (c:CI) (e:Expr),kI S tt c e=true->PIS X tg e (mIS S.gl X.K ex c)
  | .any c,e,h=>ax8 (iI Q c e h)
  | .aa0 c,e,h=>by
    cases e with
    | Call f as ks p =>
      cases f with
      | Name r q =>
        cases as with
        | nil=>exact aU h
        | cons y yr =>
          cases yr with
          | cons _ _=>exact aU h
          | nil =>
            cases ks with
            | cons _ _=>exact aU h
            | nil =>
              have h':(r == ("range" : Str)&&a0H S&&!isStar y&&kE S c y)=true:=h;simp only [ak,cg] at h';obtain ⟨⟨⟨h1,h2⟩,h3⟩,h4⟩:=h';have:=beq_iff_eq.mp h1;subst this;obtain ⟨g1,g2⟩:=ac1 Q h2;exact aq6 g1 g2 (sI (iI Q c y h4) ab7 (bA h3)) (bA h3)
      | _=>exact aU h
    | _=>exact aU h
theorem am7 (h:isTup e=true):∃ es kt pt,e = .Tuple es kt pt:=by
  cases e <;> first | exact ⟨_,_,_,rfl⟩ | exact aU h
mutual
theorem okS:∀ (c:CS) {X:Cx} {S:SI} {ex:aP->aY} {lv:Nat},a5K X S ex lv->∀ (st:Stmt),kS S lv c st=true->PS3 X st (mS S.gl X.K ex c)
  | .ret e,X,S,ex,lv,Q,st,h=>by
    cases st with
    | Return v p =>
      cases v with
      | some x=>exact aC6 (iI Q.si e x h)
      | none=>exact aU h
    | _=>exact aU h
  | .expr e,X,S,ex,lv,Q,st,h=>by
    cases st with
    | Expr x p =>
      have h':(!sY x&&kE S e x)=true:=h;simp only [ak,cg] at h';exact awA (iI Q.si e x h'.2) (agH h'.1)
    | _=>exact aU h
  | .ifs t a b,X,S,ex,lv,Q,st,h=>by
    cases st with
    | If x y z p =>
      have h':(kT S t x&&kB S lv a y&&kB S lv b z)=true:=h;simp only [ak] at h';exact aH0 (okT Q.si t x h'.1.1) (okB a Q y h'.1.2) (okB b Q z h'.2)
    | _=>exact aU h
  | .set i e,X,S,ex,lv,Q,st,h=>by
    cases st with
    | Assign ts y p =>
      cases ts with
      | nil=>exact aU h
      | cons t r =>
        cases r with
        | cons _ _=>cases t <;> exact aU h
        | nil =>
          cases t with
          | Name x q =>
            have h':(S.N[i]? == some x&&S.fl[i]? == some true&&!sY y&&kE S e y)=true:=h;simp only [ak,cg] at h';have e1:=beq_iff_eq.mp h'.1.1.1;exact at5 (i:=i) Q.si.nd (by rw [Q.si.N];exact e1) (Q.loc i x e1 (beq_iff_eq.mp h'.1.1.2)) (iI Q.si e y h'.2) (agH h'.1.2) (.inl (Q.fn i x e1 (beq_iff_eq.mp h'.1.1.2)))
          | _=>exact aU h
    | _=>exact aU h
  | .aqY o i e,X,S,ex,lv,Q,st,h=>by
    cases st with
    | Assign ts z p =>
      cases ts with
      | nil=>exact aU h
      | cons t r =>
        cases r with
        | cons _ _=>cases t <;> exact aU h
        | nil =>
          cases t with
          | Subscript x y q =>
            have h':(!isSlice y&&!sY z&&kE S o x&&kE S i y&&kE S e z)=true:=h;simp only [ak,cg] at h';exact axV Q.si.hu (iI Q.si o x h'.1.1.2) (iI Q.si i y h'.1.2) (iI Q.si e z h'.2) (agH h'.1.1.1.2)
          | _=>exact aU h
    | _=>exact aU h
  | .raise k e es,X,S,ex,lv,Q,st,h=>by
    cases st with
    | Raise a b p =>
      cases a with
      | none=>exact aU h
      | some a =>
        cases a with
        | Call f as ks q =>
          cases f with
          | Name x np =>
            cases as with
            | nil=>exact aU h
            | cons y ys =>
              cases ks with
              | cons _ _=>exact aU h
              | nil =>
                cases b with
                | some _=>exact aU h
                | none=>exact am6 Q h
          | _=>exact aU h
        | _=>exact aU h
    | _=>exact aU h
  | .aqV k i b hb,X,S,ex,lv,Q,st,h=>by
    cases st with
    | Try y hs el fin p =>
      cases hs with
      | nil=>exact aU h
      | cons hd tl =>
        obtain ⟨ty,nm,suite,hp⟩:=hd;cases tl with
        | cons _ _=>cases ty <;> first | exact aU h | (rename_i ty;cases ty <;> cases nm <;> cases suite <;> exact aU h)
        | nil =>
          cases ty with
          | none=>exact aU h
          | some ty =>
            cases ty with
            | Name x cp =>
              cases nm with
              | none=>exact aU h
              | some n =>
                cases suite with
                | nil=>exact aU h
                | cons z zs =>
                  cases el with
                  | cons _ _=>exact aU h
                  | nil =>
                    cases fin with
                    | cons _ _=>exact aU h
                    | nil =>
                      have h':(lv == 0&&S.calm&&S.N[i]? == some n&&S.lc[i]? == some true&&kB S 1 b y&&kB S.han 2 hb (z :: zs)&&S.gv[k]? == some true&&a8P S k x)=true:=h;simp only [ak] at h';obtain ⟨⟨⟨⟨⟨⟨⟨h0,hcm⟩,h1⟩,h2⟩,h3⟩,h4⟩,hv⟩,h⟩:=h';have hv:=beq_iff_eq.mp hv;obtain ⟨a,hg⟩:=ac3 h;show PS3 X _ (ar0 S.gl X.K k i (fun EX2=>mB S.gl X.K EX2 b) (mB S.gl X.K NoX hb));rw [ar4 hg];have e1:=beq_iff_eq.mp h1;obtain ⟨g1,g2,g3,g4,g5⟩:=Q.si.gl _ _ _ hg hv;obtain ⟨c1,c2,c3,c4⟩:=Q.cls _ _ _ hg hv;exact aCD (i:=i) (Q.si.cm hcm) Q.si.nd (by rw [Q.si.N];exact e1) (Q.lcl i n e1 (beq_iff_eq.mp h2)) Q.stk Q.frm g1 g4 c2 c3 c4 (fun pn EX=>okB b (Q.tr pn EX) y h3) (fun xx=>okB hb (Q.ha xx) (z :: zs) h4) g2
            | _=>exact aU h
    | _=>exact aU h
  | .setC i fl gv ci cc c,X,S,ex,lv,Q,st,h=>by
    cases st with
    | Assign ts z p =>
      cases ts with
      | nil=>exact aU h
      | cons t r =>
        cases r with
        | cons _ _=>cases t <;> exact aU h
        | nil =>
          cases t with
          | Name y q =>
            cases z with
            | ListComp elt gens scope pp =>
              cases gens with
              | nil=>exact aU h
              | cons g gr =>
                cases gr with
                | cons _ _=>obtain ⟨tg,it,ifs,a⟩:=g;cases tg <;> exact aU h
                | nil =>
                  obtain ⟨tg,it,ifs,a⟩:=g;cases tg with
                  | Name x px =>
                    have h':(S.N[i]? == some y&&S.fl[i]? == some true&&a == 0&&yS S [x] scope fl gv&&!isSet it&&kI S false ci it&&kC (S.cmp [x] fl gv) cc ifs&&kE (S.cmp [x] fl gv) c elt)=true:=h;simp only [ak,cg] at h';obtain ⟨⟨⟨⟨⟨⟨⟨hy,hy2⟩,h2⟩,h3⟩,h4⟩,h5⟩,h6⟩,h7⟩:=h';have:=beq_iff_eq.mp h2;subst this;have e1:=beq_iff_eq.mp hy;exact aq3 (i:=i) (jL Q.si h3) (fun C s H fp pins σ=>akW (jL Q.si h3) Q.si.nd) abM Q.si.nd (by rw [Q.si.N];exact e1) (Q.loc i y e1 (beq_iff_eq.mp hy2)) (Q.fn i y e1 (beq_iff_eq.mp hy2)) (okI (tt:=false) Q.si (fun z=>nomatch z) ci it h5) (fun C s H fp pins=>okC (Q.si.cmp h3 C s H fp pins) cc ifs h6) (fun C s H fp pins=>iI (Q.si.cmp h3 C s H fp pins) c elt h7) (agG h4)
                  | _=>exact aU h
            | _=>exact aU h
          | _=>exact aU h
    | _=>exact aU h
  | .aqW is e,X,S,ex,lv,Q,st,h=>by
    cases st with
    | Assign ts y p =>
      cases ts with
      | nil=>exact aU h
      | cons t r =>
        cases r with
        | cons _ _=>cases t <;> exact aU h
        | nil =>
          cases t with
          | Tuple es k tp =>
            have h':(S.calm&&!isTup y&&!sY y&&kTg.kNs S is es&&kE S e y)=true:=h;simp only [ak,cg] at h';obtain ⟨⟨⟨⟨h1,h2⟩,h3⟩,h4⟩,h5⟩:=h';exact axB (atA Q.si.nd (Q.si.cm h1) (ae8 Q h4)) (iI Q.si e y h5) (show swapsWith y (some (.Tuple es k tp)) p.line X.env=pure false from agH h3) (ayF h2) rfl
          | _=>exact aU h
    | _=>exact aU h
  | .aug i neg e,X,S,ex,lv,Q,st,h=>by
    cases st with
    | AugAssign t o y p =>
      cases t with
      | Name x q =>
        have h':(S.N[i]? == some x&&S.fl[i]? == some true&&o == (if neg then Operator.Sub else Operator.Add)&&kE S e y)=true:=h;simp only [ak] at h';obtain ⟨⟨⟨h1,h2⟩,h3⟩,h4⟩:=h';have e1:=beq_iff_eq.mp h1;have:=beq_iff_eq.mp h3;subst this;cases neg with
        | true=>exact atE (i:=i) Q.si.nd (by rw [Q.si.N];exact e1) (Q.loc i x e1 (beq_iff_eq.mp h2)) aoI (iI Q.si e y h4) (.inl (Q.fn i x e1 (beq_iff_eq.mp h2)))
        | false=>exact atE (i:=i) Q.si.nd (by rw [Q.si.N];exact e1) (Q.loc i x e1 (beq_iff_eq.mp h2)) aoH (iI Q.si e y h4) (.inl (Q.fn i x e1 (beq_iff_eq.mp h2)))
      | _=>exact aU h
    | _=>exact aU h
  | .aqX t b,X,S,ex,lv,Q,st,h=>by
    cases st with
    | While x y el p =>
      cases el with
      | cons _ _=>exact aU h
      | nil =>
        have h':(lv != 1&&kT S t x&&kB S lv b y)=true:=h;simp only [ak] at h';exact aq7 (Q.l0 (bne_iff_ne.mp h'.1.1)) (okT Q.si t x h'.1.2) (okB b Q y h'.2)
    | _=>exact aU h
  | .a5J ci tg b,X,S,ex,lv,Q,st,h=>by
    cases st with
    | For tgt it body el p =>
      cases el with
      | cons _ _=>exact aU h
      | nil =>
        have h':(lv != 1&&ayE S tg&&!isSet it&&kTg S tg tgt&&kI S (isTup tgt&&S.calm) ci it&&kB S lv b body)=true:=h;simp only [ak,cg] at h';obtain ⟨⟨⟨⟨⟨h1,hg⟩,h2⟩,h3⟩,h4⟩,h5⟩:=h';exact ax9 (Q.l0 (bne_iff_ne.mp h1)) (aI7 Q.si (fun z=>by rw [ak] at z;exact ⟨Q.si.cm z.2,am7 z.1⟩) ci it h4) (aDQ Q hg h3) (okB b Q body h5) (agG h2)
    | _=>exact aU h
  | .pass,X,S,ex,lv,Q,st,h=>by
    cases st with
    | Pass _=>exact aw9
    | _=>exact aU h
theorem okB:∀ (c:CB) {X:Cx} {S:SI} {ex:aP->aY} {lv:Nat},a5K X S ex lv->∀ (st:List Stmt),kB S lv c st=true->yI X st (mB S.gl X.K ex c)
  | .nil,X,S,ex,lv,Q,st,h=>by
    cases st with
    | nil=>exact aC4
    | cons _ _=>exact aU h
  | .cons s .nil,X,S,ex,lv,Q,st,h=>by
    match st,h with
    | [],h=>exact aU h
    | [x],h =>
      have h':(kS S lv s x&&kB S lv .nil [])=true:=h;rw [ak] at h';exact aC5 (okS s Q x h'.1)
    | x :: y :: ys,h =>
      have h':(kS S lv s x&&kB S lv .nil (y :: ys))=true:=h;rw [ak] at h';exact aU h'.2
  | .cons s (.cons s' r),X,S,ex,lv,Q,st,h=>by
    match st,h with
    | [],h=>exact aU h
    | x :: ys,h =>
      have h':(kS S lv s x&&kB S lv (.cons s' r) ys)=true:=h;rw [ak] at h';exact aw8 (okS s Q x h'.1) (okB (.cons s' r) Q ys h'.2)
end
end L4
namespace L4
open PySem PySem.Spec PyProof.Rows L2
noncomputable def cP (R:fM):fM:=fun d G'=>∃ G0,Le G0 G'/\R d G0
noncomputable def fV (EX:aY):aY:=fun C G'=>∃ G0,Le G0 G'/\EX C G0
noncomputable def spD (n m:Nat) (tb:aY->bL):kJ:=fun ds G R EX=>ds.length=m/\tb (fV EX) ⟨fun _ G'=>cP R .non G',cP R,fun _ _=>False,fun _ _=>False⟩ (fB n ds) G
variable {G:Gp}
theorem cP.here {R:fM} {d:D} (h:R d G):cP R d G:=⟨G,.refl G,h⟩
theorem fV.here {R:aY} {d:Addr} (h:R d G):fV R d G:=⟨G,.refl G,h⟩
theorem a5L {K:Fg} {EX:aY} {E:XK} (h:UpX K EX E):UpX K (fV EX) E:=fun C H' G' g ⟨G0,l,q⟩=>h C H' G0 (g.le l) q
variable {qt:Bool}{P:Program}{mg:Str->Option Value}{base:Heap}{x qual:Str}{st:Stmt}{f:Addr}{fd:FuncData}{ps:List Str}
theorem ar5 {w:World} {K:Fg} {N:List Str} {k:Nat} {tb:aY->bL} (F:v9 K x qual st f fd) (S:bD N ps (aH st))
    (hbody:∀ (cdv:Value) (A:Around) (outer:List Env) (s:Shared) (H:Hp) (E:XK) (EX:aY),cO qt k (A.deeper (envOfC qual (aH st) s.heap.objs.size f cdv))->UpX K EX E ->
      yI (cx1 qt P w K mg base N qual (aH st) f cdv A outer s H E) (cA st) (tb EX)):cG qt P w K mg base (iK P w) (k+1) f fd ps (cY K (spD N.length ps.length tb)):=by
  refine (awD F S hbody).imp fun vs H Q E ⟨ds,G,R,EX,r,g,⟨hl,q⟩,kk,hE⟩=>?_;exact ⟨ds,G,cP R,fV EX,r,g,⟨hl,q⟩,fun v H' d G' r1 g1 ⟨G0,l,q⟩=>kk v H' d G0 r1 (g1.le l) q,a5L hE⟩
noncomputable def GTs (P:Program) (w:World) (K:Fg) (mg:Str->Option Value) (base:Heap) (k:Nat) (x:Str):GT->Prop
  | .con d=>∃ u v,mg x=some u/\RelV v u/\∀ H,RD K H d v
  | .cls a=>mg x=some (.ref a)/\ju K a BMv "ValueError.__new__" = true/\(jj K a).isSome=true/\jz K (.ref a)=some (.type "type")/\je K (.ref a) (.type "BaseException")=some true
  | .fn sp n qt=>∃ f fd ps,cG qt P w K mg base (iK P w) k f fd ps (cY K sp)/\mg x=some (.ref f)/\jy K (.ref f)=true/\Binds K fd ps []
  | .bf b=>mg x=none/\bootBuiltins x=some (atP b)
  | .bt n=>mg x=none/\bootBuiltins x=some (.type n)
  | .kl C sp dd=>∃ j f fd ps ds zX,j+1=k/\Mk K C f/\cG false P w K mg base (iK P w) j f fd ps (cY K sp)/\mg x=some (.ref C)/\Binds K fd ps ds/\Vals zX ds/\∀ H,bR K H dd zX
  | .me C m sp dd=>∃ f fd ps ds zX,Cls K C/\Meth K C m f/\cG false P w K mg base (iK P w) k f fd ps (cY K sp)/\Binds K fd ps ds/\Vals zX ds/\∀ H,bR K H dd zX
  | .fl C f=>Cls K C/\ajT K C f
  | .clo c sp=>vQ false P w K mg base k c sp
  | .fnP sp n=>∃ f fd ps,abW false P w K mg base (iK P w) k f fd ps (cY K sp)/\mg x=some (.ref f)/\jy K (.ref f)=true/\Binds K fd ps []
noncomputable def ar6 (sc:Scope) (x:Str):Bool:=match sc.names.lookup x with
  | some .local=>true
  | some .cell=>true
  | _=>false
noncomputable def ar7 (sc:Scope) (x:Str):Bool:=match sc.names.lookup x with
  | some .local=>true
  | _=>false
noncomputable def ar8 (sc:Scope) (x:Str):Bool:=match sc.names.lookup x with
  | some .globalImplicit=>true
  | _=>false
noncomputable def ar9 (sc:Scope) (x:Str):Bool:=match sc.names.lookup x with
  | some .cell=>true
  | _=>false
variable {sc:Scope}
theorem agI (h:ar9 sc x=true):sc.names.lookup x=some .cell:=by
  unfold ar9 at h;split at h
  . rename_i e;exact e
  . exact aU h
noncomputable def a0I (S:SI) (sc:Scope):Bool:=(gk S.N.length).all (fun i=>match S.N[i]? with
    | none=>false
    | some x=>x != ("__debug__" : Str)&&x != ("__classdict__" : Str)&&(S.fl[i]? != some true || ar6 sc x)&&(S.lc[i]? != some true || ar7 sc x)&&(S.ce[i]? != some true || ar9 sc x)) &&
  (gk S.gl.length).all (fun k=>match S.gl[k]? with
    | none=>false
    | some (y,_)=>(S.gv[k]? != some true || ar8 sc y)&&y != ("__debug__" : Str)&&y != ("__name__" : Str))
theorem agJ (h:ar6 sc x=true):Loc sc x:=by
  unfold ar6 at h;split at h
  . rename_i e;exact .inl e
  . rename_i e;exact .inr e
  . exact aU h
theorem a0J (h:Loc sc x):Vis sc x:=h.elim .inl fun z => .inr (.inl z)
theorem agK (h:ar7 sc x=true):sc.names.lookup x=some .local:=by
  unfold ar7 at h;split at h
  . rename_i e;exact e
  . exact aU h
theorem agL (h:ar8 sc x=true):sc.names.lookup x=some .globalImplicit:=by
  unfold ar8 at h;split at h
  . rename_i e;exact e
  . exact aU h
variable {S:SI}
theorem gP (h:a0I S sc=true) {i:Nat} (e:S.N[i]?=some x) :
    (x == ("__debug__" : Str))=false/\(x == ("__classdict__" : Str))=false/\(S.fl[i]?=some true->Loc sc x)/\(S.lc[i]?=some true->sc.names.lookup x=some .local)/\(S.ce[i]?=some true->sc.names.lookup x=some .cell):=by
  unfold a0I at h;rw [ak] at h;have hi:i < S.N.length:=(cj.mp e).1;have q:=fj.mp h.1 i (ni.mpr hi);rw [e] at q;simp only [ak,bne_iff_ne,ne_eq,qy] at q;obtain ⟨⟨⟨⟨q1,q2⟩,q3⟩,q4⟩,q5⟩:=q;refine ⟨beq_eq_false_iff_ne.mpr q1,beq_eq_false_iff_ne.mpr q2,fun z=>?_,fun z=>?_,fun z=>?_⟩
  . rcases q3 with q | q
    . exact absurd z q
    . exact agJ q
  . rcases q4 with q | q
    . exact absurd z q
    . exact agK q
  . rcases q5 with q | q
    . exact absurd z q
    . exact agI q
theorem aa2 (h:a0I S sc=true) {k:Nat} {g:GT} (e:S.gl[k]?=some (x,g)):(S.gv[k]?=some true->sc.names.lookup x=some .globalImplicit)/\(x == ("__debug__" : Str))=false/\x ≠ "__name__" := by
  unfold a0I at h;rw [ak] at h;have q:=fj.mp h.2 k (ni.mpr (cj.mp e).1);rw [e] at q;simp only [ak,bne_iff_ne,ne_eq,qy] at q;exact ⟨fun z=>agL (q.1.1.resolve_left fun n=>n z),beq_eq_false_iff_ne.mpr q.1.2,q.2⟩
theorem am9 {w:World} {K:Fg} {k:Nat} {c:CB} (F:v9 K x qual st f fd) (hS:bD S.N ps (aH st))
    (hc:S.calm=!qt) (hv:a0I S (aH st)=true) (hk:kB S 0 c (cA st)=true) (hg:∀ (j:Nat) (y:Str) (g:GT),S.gl[j]?=some (y,g)->GTs P w K mg base k y g) (hn:S.need=false:=by rfl) :
    cG qt P w K mg base (iK P w) (k+1) f fd ps (cY K (spD S.N.length ps.length fun EX=>mB S.gl K (fun _=>EX) c)):=by
  refine ar5 F hS fun cdv A outer s H E EX hr hE=>?_;refine okB c (X:=cx1 qt P w K mg base S.N qual (aH st) f cdv A outer s H E) (S:=S) (ex:=fun _=>EX) (lv:=0) ?_ (cA st) hk;refine ⟨⟨rfl,hS.nd,fun i y e1 e2=>?_,fun i y e1 e2 => .inl ((gP hv e1).2.2.2.2 e2),fun j y g e=>?_,hr.units,fun z=>hc.symm.trans z,awB hE,fun z=>by rw [hn] at z;cases z⟩,fun i y e1 e2=>?_,fun i y e1 e2=>?_,fun _ _ _ _=>rfl,fun j y a e _=>?_,fun _=>own1,fun _ _=>awC hE,rfl,rfl⟩
  . obtain ⟨a1,a2,a3,a4⟩:=gP hv e1;exact ⟨a0J (a3 e2),a1,a2⟩
  . obtain ⟨a1,a2,a3⟩:=aa2 hv e;have z:=hg j y g e;refine ⟨a1,a2,a3,?_⟩;cases g with
    | con d=>exact z
    | cls a=>exact ⟨z.1,z.2.1⟩
    | fn sp n q2 =>
      intro hz;obtain ⟨f',fd',ps',F',m',k',b'⟩:=z;refine ⟨k,f',fd',ps',F',⟨fun e=>hr.hd ?_,hr.dp,hr.un⟩,m',k',b'⟩;have hs:S.calm=true:=hz.resolve_left (by rw [e];decide);rw [hc] at hs;simpa using hs
    | bf b=>exact z
    | bt n=>exact z
    | kl C sp dd =>
      intro hs;obtain ⟨j',f',fd',ps',ds,zX,rfl,q1,q2,q3,q4,q5,q6⟩:=z;rw [hc] at hs;exact ⟨j',f',fd',ps',ds,zX,q1,q2,⟨fun _=>hr.hd (by simpa using hs),hr.dp,hr.un⟩,q3,q4,q5,q6⟩
    | me C m sp dd =>
      intro hs;obtain ⟨f',fd',ps',ds,zX,q1,q2,q3,q4,q5,q6⟩:=z;rw [hc] at hs;exact ⟨k,f',fd',ps',ds,zX,q1,q2,q3,⟨fun _=>hr.hd (by simpa using hs),hr.dp,hr.un⟩,q4,q5,q6⟩
    | fl C f=>exact z
    | clo c sp =>
      intro hs;rw [hc] at hs;exact ⟨k,z,⟨fun _=>hr.hd (by simpa using hs),hr.dp,hr.un⟩⟩
    | fnP sp n =>
      intro hs;obtain ⟨f',fd',ps',F',m',k',b'⟩:=z;rw [hc] at hs;exact ⟨k,f',fd',ps',F',⟨fun _=>hr.hd (by simpa using hs),hr.dp,hr.un⟩,m',k',b'⟩
  . exact (gP hv e1).2.2.1 e2
  . exact (gP hv e1).2.2.2.1 e2
  . have z:=hg j y _ e;exact z.2
end L4
namespace L4
open PySem PySem.Spec PyProof.Rows L2 PySem.W
noncomputable def ayG (sc:Scope) (x:Str):Bool:=match sc.names.lookup x with
  | some .free=>true
  | _=>false
variable {sc:Scope}{x:Str}
theorem arA (h:ayG sc x=true):sc.names.lookup x=some .free:=by
  unfold ayG at h;split at h
  . assumption
  . exact aU h
noncomputable def aiM (S:SI) (sc:Scope):Bool:=(gk S.N.length).all (fun i=>match S.N[i]? with
    | none=>false
    | some x=>x != ("__debug__" : Str)&&x != ("__classdict__" : Str)&&(S.fl[i]? != some true || ar6 sc x)&&(S.lc[i]? != some true || ar7 sc x)&&(S.ce[i]? != some true || (ar9 sc x || ayG sc x))) &&
  (gk S.gl.length).all (fun k=>match S.gl[k]? with
    | none=>false
    | some (y,_)=>(S.gv[k]? != some true || ar8 sc y)&&y != ("__debug__" : Str)&&y != ("__name__" : Str))
variable {S:SI}
theorem zG (h:aiM S sc=true) {i:Nat} (e:S.N[i]?=some x) :
    (x == ("__debug__" : Str))=false/\(x == ("__classdict__" : Str))=false/\(S.fl[i]?=some true->Loc sc x)/\(S.lc[i]?=some true->sc.names.lookup x=some .local)/\(S.ce[i]?=some true->sc.names.lookup x=some .cell∨sc.names.lookup x=some .free):=by
  unfold aiM at h;rw [ak] at h;have hi:i < S.N.length:=(cj.mp e).1;have q:=fj.mp h.1 i (ni.mpr hi);rw [e] at q;simp only [ak,bne_iff_ne,ne_eq,qy] at q;obtain ⟨⟨⟨⟨q1,q2⟩,q3⟩,q4⟩,q5⟩:=q;exact ⟨beq_eq_false_iff_ne.mpr q1,beq_eq_false_iff_ne.mpr q2,fun z=>agJ (q3.resolve_left fun n=>n z),fun z=>agK (q4.resolve_left fun n=>n z),fun z=>(q5.resolve_left fun n=>n z).elim (fun y => .inl (agI y)) fun y => .inr (arA y)⟩
variable {y:Str}{g:GT}
theorem amA (h:aiM S sc=true) {k:Nat} (e:S.gl[k]?=some (y,g)):(S.gv[k]?=some true->sc.names.lookup y=some .globalImplicit)/\(y == ("__debug__" : Str))=false/\y ≠ "__name__" := by
  unfold aiM at h;rw [ak] at h;have hi:k < S.gl.length:=(cj.mp e).1;have q:=fj.mp h.2 k (ni.mpr hi);rw [e] at q;simp only [ak,bne_iff_ne,ne_eq,qy] at q;exact ⟨fun z=>agL (q.1.1.resolve_left fun n=>n z),beq_eq_false_iff_ne.mpr q.1.2,q.2⟩
variable {qt:Bool}{c:a06}{ps:List Str}{cb:CB}{qual:Str}{st:Stmt}{fd:FuncData}
section
variable {P:Program} {w:World} {K:Fg} {mg:Str->Option Value} {base:Heap} {k:Nat}
theorem aa3 {X:Cx} (hX:X.prog=P/\X.w=w/\X.K=K/\X.mg=mg/\X.base=base) (hr:cO qt k X.A) (hc:S.calm=!qt) (z:GTs P w K mg base k y g):ay8 X S.calm y g:=by
  obtain ⟨rfl,rfl,rfl,rfl,rfl⟩:=hX;cases g with
  | con d=>exact z
  | cls a=>exact ⟨z.1,z.2.1⟩
  | fn sp n q2 =>
    intro hz;obtain ⟨f',fd',ps',F',m',k',b'⟩:=z;refine ⟨k,f',fd',ps',F',⟨fun e=>hr.hd ?_,hr.dp,hr.un⟩,m',k',b'⟩;have hs:S.calm=true:=hz.resolve_left (by rw [e];decide);rw [hc] at hs;simpa using hs
  | bf b=>exact z
  | bt n=>exact z
  | kl C sp dd =>
    intro hs;obtain ⟨j',f',fd',ps',ds,zX,rfl,q1,q2,q3,q4,q5,q6⟩:=z;rw [hc] at hs;exact ⟨j',f',fd',ps',ds,zX,q1,q2,⟨fun _=>hr.hd (by simpa using hs),hr.dp,hr.un⟩,q3,q4,q5,q6⟩
  | me C m sp dd =>
    intro hs;obtain ⟨f',fd',ps',ds,zX,q1,q2,q3,q4,q5,q6⟩:=z;rw [hc] at hs;exact ⟨k,f',fd',ps',ds,zX,q1,q2,q3,⟨fun _=>hr.hd (by simpa using hs),hr.dp,hr.un⟩,q4,q5,q6⟩
  | fl C f=>exact z
  | clo c sp =>
    intro hs;rw [hc] at hs;exact ⟨k,z,⟨fun _=>hr.hd (by simpa using hs),hr.dp,hr.un⟩⟩
  | fnP sp n =>
    intro hs;obtain ⟨f',fd',ps',F',m',k',b'⟩:=z;rw [hc] at hs;exact ⟨k,f',fd',ps',F',⟨fun _=>hr.hd (by simpa using hs),hr.dp,hr.un⟩,m',k',b'⟩
theorem amB (hS:ScX S.N ps c.x c.scope) (rD:∀ y∈c.scope.names,y.1=c.x->y.2 ≠ .cell)
    (hb:∀ (cl:List (Str×Addr)) (doc pm cdv ctv:Value) (us:List Value),us.length=ps.length->bindArgs (fnX c.name c.qual c.params c.body c.scope cl .none .none doc pm none cdv ctv) ⟨us,[]⟩=pure (ps.zip us))
    (hc:S.calm=true) (hv:aiM S c.scope=true) (hk:kB S 0 cb c.body=true) (hg:∀ (j:Nat) (y:Str) (g:GT),S.gl[j]?=some (y,g)->GTs P w K mg base k y g) (hn:S.need=false:=by rfl) :
    vQ false P w K mg base (k+1) c (spD S.N.length (ps.length+1) fun EX=>mB S.gl K (fun _=>EX) cb):=by
  have main:vQ false P w K mg base (k+1) c (apH S.N.length (ps.length+1) fun EX=>mB S.gl K (fun _=>fV EX) cb):=by
    refine awH hS rD hb fun f c' cc A outer s H hr=>?_;refine okB cb (X:=cxX false (iK P w) P w K mg base S.N c.qual c.scope f (.ref c') c.x cc A outer s H (fun _ _ _=>False)) (S:=S) (ex:=fun _=>fV fun _ _=>False) (lv:=0) ?_ c.body hk;refine ⟨⟨rfl,hS.nd,fun i y e1 e2=>?_,fun i y e1 e2=>(zG hv e1).2.2.2.2 e2,fun j y g e=>?_,hr.units,fun _=>rfl,⟨fun pins σ H' s' ρ e s'' I sr z=>?_⟩,fun z=>by rw [hn] at z;cases z⟩,fun i y e1 e2=>(zG hv e1).2.2.1 e2,fun i y e1 e2=>(zG hv e1).2.2.2.1 e2,fun i y e1 e2=>?_,fun j y a e _=>(hg j y _ e).2,fun _=>PassesOwn.leaving,fun _ _=>⟨fun pins σ H' s' ρ C e us h' I sr hm z=>?_⟩,rfl,rfl⟩
    . obtain ⟨a1,a2,a3,_⟩:=zG hv e1;exact ⟨a0J (a3 e2),a1,a2⟩
    . obtain ⟨a1,a2,a3⟩:=amA hv e;exact ⟨a1,a2,a3,aa3 (qt:=false) ⟨rfl,rfl,rfl,rfl,rfl⟩ hr hc (hg j y g e)⟩
    . obtain ⟨_,_,_,_,_,_,_,_,_,_,_,_,z⟩:=z;obtain ⟨_,_,_,_,_,_,z⟩:=z;exact z.elim
    . show (!(y == c.x))=true;have l:=(zG hv e1).2.2.1 e2
      have n:y≠c.x:=fun q=>by
        subst q;rcases l with l | l <;> (have o:=hS.own;rw [l] at o;cases o)
      simp [n]
    . obtain ⟨_,_,_,_,_,_,z⟩:=z;exact z.elim
  intro A outer s H us vs ds d G R E f hr e0 hh g hf rv rd hsp;refine codeAny_mono (main A outer s H us vs ds d G (cP R) E f hr e0 hh g hf rv rd hsp) fun r s' q=>?_;cases r with
  | error e=>exact q
  | ok fl =>
    cases fl with
    | ret u =>
      obtain ⟨v,H',a1,a2,a3,a4,a5,d',G2,r2,g2,G0,l,q2⟩:=q;exact ⟨v,H',a1,a2,a3,a4,a5,d',G0,r2,g2.le l,q2⟩
    | _=>exact q
noncomputable def atY (n m:Nat) (tb:aY->bL) (T:Addr) (c:a06) (pos:Pos) (ix:Nat):kJ:=aC7 n m (fun EX=>tb (fV EX)) T c pos ix
theorem arB {f cC T:Addr} {ig ix:Nat} {pre:List Stmt} {pos pg pr:Pos} (F:v9 K x qual st f fd) (hS:bD S.N ps (aH st))
    (hb:cA st=(pre++[.FunctionDef c.name c.params c.body [] none [] c.scope none c.name pos])++[.Return (some (.Name c.name pg)) pr]) (hd0:c.params.defaults=[]) (hk0:c.params.kw_defaults=[]) (ha:∀ env,annTrees c.params none env=[])
    (hq:qual ++ ".<locals>." ++ c.name=c.qual) (hfc:fd.code = .ref cC) (hC:CodeHd base cC T) (hbt:base.BuiltinsAt mg T) (hcf:c.scope.names.filter (fun p=>p.2 == .free)=[(c.x,.free)])
    (hig:S.N[ig]?=some c.name) (hgl:(aH st).names.lookup c.name=some .local) (hix:S.N[ix]?=some c.x) (hxc:(aH st).names.lookup c.x=some .cell) (hne:ig≠ix) (hdb:(c.name == ("__debug__" : Str))=false) (hcd:(c.name == ("__classdict__" : Str))=false)
    (hc:S.calm=!qt) (hv:a0I S (aH st)=true) (hk:kB S 0 cb pre=true) (hg:∀ (j:Nat) (y:Str) (g:GT),S.gl[j]?=some (y,g)->GTs P w K mg base k y g) (hn:S.need=false:=by rfl) :
    cG qt P w K mg base (iK P w) (k+1) f fd ps (cY K (atY S.N.length ps.length (fun EX=>mB S.gl K (fun _=>EX) cb) T c pos ix)):=by
  have z:=awE (tb:=fun EX=>mB S.gl K (fun _=>EX) cb) F hS hb hd0 hk0 ha hq hfc hC hbt hcf hig hgl hix hxc hne hdb hcd (k:=k) (qt:=qt) (P:=P) (w:=w) fun cdv A outer s H E EX hr hE=>by
    refine okB cb (X:=cx1 qt P w K mg base S.N qual (aH st) f cdv A outer s H E) (S:=S) (ex:=fun _=>EX) (lv:=0) ?_ pre hk;refine ⟨⟨rfl,hS.nd,fun i y e1 e2=>?_,fun i y e1 e2 => .inl ((gP hv e1).2.2.2.2 e2),fun j y g e=>?_,hr.units,fun z=>hc.symm.trans z,awB hE,fun z=>by rw [hn] at z;cases z⟩,fun i y e1 e2=>(gP hv e1).2.2.1 e2,fun i y e1 e2=>(gP hv e1).2.2.2.1 e2,fun _ _ _ _=>rfl,fun j y a e _=>(hg j y _ e).2,fun _=>own1,fun _ _=>awC hE,rfl,rfl⟩
    . obtain ⟨a1,a2,a3,a4⟩:=gP hv e1;exact ⟨a0J (a3 e2),a1,a2⟩
    . obtain ⟨a1,a2,a3⟩:=aa2 hv e;exact ⟨a1,a2,a3,aa3 ⟨rfl,rfl,rfl,rfl,rfl⟩ hr hc (hg j y g e)⟩
  refine z.imp fun vs H Q E ⟨ds,G,R,EX,r,g,q,kk,hE⟩=>⟨ds,G,R,fV EX,r,g,q,kk,a5L hE⟩
end
theorem vQ.mono {qt:Bool} {P:Program} {w:World} {K:Fg} {mg:Str->Option Value} {base:Heap} {j k:Nat} {c:a06} {sp:kJ} (F:vQ qt P w K mg base j c sp) (h:j<=k):vQ qt P w K mg base k c sp :=
  fun A outer s H us vs ds d G R E f hr=>F A outer s H us vs ds d G R E f (hr.mono h)
noncomputable def inBody (s:Stmt) (i:Nat):Stmt:=(cA s).getD i (.Pass ⟨0,0,0,0⟩)
noncomputable def aDR (qual x:Str) (s:Stmt):a06:=match s with
  | .FunctionDef nm a b _ _ _ sc _ _ _=>⟨nm,qual ++ ".<locals>." ++ nm,a,b,sc,x⟩
  | s=>⟨"", "",jY s,[],aH s, ""⟩
noncomputable def ac4 (s:Stmt):Pos:=match s with
  | .FunctionDef _ _ _ _ _ _ _ _ _ p=>p
  | _=>⟨0,0,0,0⟩
noncomputable def aDS (s:Stmt):Pos:=match s with
  | .Return _ p=>p
  | _=>⟨0,0,0,0⟩
noncomputable def ayH (s:Stmt):Pos:=match s with
  | .Return (some (.Name _ p)) _=>p
  | _=>⟨0,0,0,0⟩
theorem a8Q (h:sc.names.all (fun p=>p.2 != .free || p.1 == x)=true):∀ y,sc.names.lookup y=some .free->y=x:=by
  have key:∀ (l:List (Str×NameKind)),l.all (fun p=>p.2 != .free || p.1 == x)=true->∀ y,l.lookup y=some .free->y=x:=by
    intro l
    induction l with
    | nil=>intro _ y z;cases z
    | cons p r ih =>
      intro ha y z;obtain ⟨n,kd⟩:=p;rw [mq,ak] at ha;rw [jf] at z;split at z
      . rename_i e;cases z;rcases qy _ _ |>.mp ha.1 with q | q
        . simp at q
        . rw [beq_iff_eq.mp e];exact beq_iff_eq.mp q
      . exact ih ha.2 y z
  exact key _ h
theorem ac5 {K:Fg} {f c t:Addr} (F:v9 K x qual st f fd) (h:tabIn K y=some (c,t)) (hn:nsIn K mainGlobals y=some (some (.ref f))):fd.code = .ref c:=by
  obtain ⟨oc,od,dV,kV,doc,pm,an,cdv,ct,osl,rfl,lk,_⟩:=F.ex;unfold tabIn at h;rw [hn] at h;dsimp only at h;rw [lk] at h;dsimp only at h;split at h
  . rename_i c' e;split at h
    . split at h
      . cases h;first | exact e | assumption | rfl
      . cases h
    . cases h
  . cases h
noncomputable def fC (K:Fg) (x:Str):Addr×Addr:=(tabIn K x).getD (0,0)
theorem a3Q {K:Fg} (h:(tabIn K x).isSome=true):tabIn K x=some ((fC K x).1,(fC K x).2):=by
  unfold fC;cases e:tabIn K x with
  | none=>rw [e] at h;cases h
  | some p=>rfl
end L4
namespace L4
open PySem PySem.Spec PyProof.Rows L2 PySem.W
variable {c:yK}{ps:List Str}{S:SI}{qt:Bool}{st:Stmt}{f:Addr}{fd:FuncData}
section
variable {P:Program} {w:World} {K:Fg} {mg:Str->Option Value} {base:Heap} {k:Nat}
theorem amC {ce:CE} (hS:ScX S.N ps c.x c.scope) (rD:∀ y∈c.scope.names,y.1=c.x->y.2 ≠ .cell)
    (hb:∀ (cl:List (Str×Addr)) (pm cdv ctv:Value) (us:List Value),us.length=ps.length->bindArgs (kla_fn "<lambda>" c.qual c.params c.body c.scope cl pm cdv ctv) ⟨us,[]⟩=pure (ps.zip us))
    (hc:S.calm=true) (hv:aiM S c.scope=true) (hk:kE S ce c.body=true) (hg:∀ (j:Nat) (y:Str) (g:GT),S.gl[j]?=some (y,g)->GTs P w K mg base k y g) (hn:S.need=false:=by rfl) :
    yR false P w K mg base (k+1) c (spL S.N.length (ps.length+1) (mE S.gl K (fun _=>fV fun _ _=>False) ce)):=by
  refine axU hS rD hb fun f c' cc A outer s H hr=>?_;refine iI (X:=cxX false (iK P w) P w K mg base S.N c.qual c.scope f (.ref c') c.x cc A outer s H (fun _ _ _=>False)) (S:=S) (ex:=fun _=>fV fun _ _=>False) ?_ ce c.body hk;refine ⟨rfl,hS.nd,fun i y e1 e2=>?_,fun i y e1 e2=>(zG hv e1).2.2.2.2 e2,fun j y g e=>?_,hr.units,fun _=>rfl,⟨fun pins σ H' s' ρ e s'' I sr z=>?_⟩,fun z=>by rw [hn] at z;cases z⟩
  . obtain ⟨a1,a2,a3,_⟩:=zG hv e1;exact ⟨a0J (a3 e2),a1,a2⟩
  . obtain ⟨a1,a2,a3⟩:=amA hv e;exact ⟨a1,a2,a3,aa3 (qt:=false) ⟨rfl,rfl,rfl,rfl,rfl⟩ hr hc (hg j y g e)⟩
  . obtain ⟨_,_,_,_,_,_,_,_,_,_,_,_,z⟩:=z;obtain ⟨_,_,_,_,_,_,z⟩:=z;exact z.elim
theorem yR.mono {qt:Bool} {j k:Nat} {c:yK} {sp:kJ} (F:yR qt P w K mg base j c sp) (h:j<=k):yR qt P w K mg base k c sp :=
  fun A outer s H us vs ds d G R E f cc c' pm ctv u vv hr=>F A outer s H us vs ds d G R E f cc c' pm ctv u vv (hr.mono h)
noncomputable def amD (n m:Nat) (T:Addr) (c:yK) (ip ix:Nat) (sp:kJ):kJ:=fun ds G R _=>ds.length=m/\alU (aB ip) T c ix sp (fB n ds) G R
noncomputable def xT (s:Stmt):Pos×Pos×Pos×Pos×Pos:=match cA s with
  | [.Return (some (.Call (.Name _ p1) [.Name _ p2] [⟨_,_,kp⟩] p3)) p4]=>(p1,p2,p3,p4,kp)
  | _=>(⟨0,0,0,0⟩,⟨0,0,0,0⟩,⟨0,0,0,0⟩,⟨0,0,0,0⟩,⟨0,0,0,0⟩)
theorem aiN {x qual y:Str} {cC T:Addr} {N:List Str} {ip ix:Nat} {sp:kJ} (F:v9 K x qual st f fd) (S:bD N ps (aH st))
    (hb:cA st=[.Return (some (.Call (.Name "sorted" (xT st).1) [.Name y (xT st).2.1] [⟨some "key",.Lambda c.params c.body c.scope c.pos,(xT st).2.2.2.2⟩] (xT st).2.2.1)) (xT st).2.2.2.1]) (hd:∀ env,defaultsOf c.params env=([],[])) (hq:qual ++ ".<locals>." ++ "<lambda>" = c.qual) (hfc:fd.code = .ref cC) (hC:CodeHd base cC T) (hbt:base.BuiltinsAt mg T)
    (hcf:c.scope.names.filter (fun p=>p.2 == .free)=[(c.x,.free)]) (hip:N[ip]?=some y) (hyl:(aH st).names.lookup y=some .local) (hix:N[ix]?=some c.x) (hxc:(aH st).names.lookup c.x=some .cell) (hdb:(y == ("__debug__" : Str))=false) (hcd:(y == ("__classdict__" : Str))=false)
    (hgs:(aH st).names.lookup ("sorted" : Str)=some .globalImplicit) (hms:mg "sorted" = none) (LO:yR qt P w K mg base k c sp):cG qt P w K mg base (iK P w) (k+3) f fd ps (cY K (amD N.length ps.length T c ip ix sp)):=by
  obtain ⟨oc,od,dV,kV,doc,pm,an,cdv,ct,osl,rfl,lk,awF⟩:=F.ex;generalize xT st=pp at hb;obtain ⟨p1,p2,p3,p4,kp⟩:=pp;rw [hb] at lk ⊢;have ecd:cdv = .ref cC:=hfc;subst ecd;refine ajU (k:=k+2) lk awF S (fun vs H Q E h=>?_) fun A outer s H vs Q E hr hsp=>?_
  . obtain ⟨ds,G,R,EX,r,g,⟨hl,q⟩,_⟩:=h;rw [← r.length,hl]
  . obtain ⟨ds,G,R,EX,r,g,⟨hl,q⟩,kk,hE⟩:=hsp;have pv:=akB (X:=gQ qt (iK P w) P w K mg base N qual (aH st) f (.ref cC) A outer s H E) (pos:=p2) ip hip (.inl hyl) hdb hcd;have hu:(A.deeper (envOfC qual (aH st) s.heap.objs.size f (.ref cC))).units+64 < cLine:=by have:=hr.un;omega
    have pe:=aqN (X:=gQ qt (iK P w) P w K mg base N qual (aH st) f (.ref cC) A outer s H E) (p:=p1) (pos:=p3) (kp:=kp) (T:=T) (cC:=cC) (ix:=ix) LO hr.in1.in1 hu hgs hms hix hxc hcf hC hbt rfl (hd _) hq pv rfl;refine ⟨_,a90 (ajJ (pos:=p4) pe),fB N.length ds,G,R,?_,g,q,fun v H' d G' _ r1 g1 q1=>kk v H' d G' r1 g1 q1⟩;unfold fB L2.start;rw [r.length];exact SR.entry r
theorem aiO {x qual:Str} {c:CB} (F:v9 K x qual st f fd) (hS:bD S.N ps (aH st)) (hnc:(aH st).names.all (fun y=>y.2 != .cell)=true) (hne:ps≠[]) (hc:S.calm=!qt) (hv:a0I S (aH st)=true) (hk:kB S 0 c (cA st)=true)
    (hg:∀ (j:Nat) (y:Str) (g:GT),S.gl[j]?=some (y,g)->GTs P w K mg base k y g):cG qt P w K mg base (iK P w) (k+1) f fd ps (cY K (spD S.N.length ps.length fun EX=>mB S.gl K (fun _=>EX) c)):=by
  have z:=aqM (qt:=qt) (P:=P) (w:=w) (mg:=mg) (base:=base) (k:=k) (tb:=fun EX=>mB S.gl K (fun _=>EX) c) F hS hnc hne fun cdv A outer s H E EX hr hE=>by
    refine okB c (X:=(cx1 qt P w K mg base S.N qual (aH st) f cdv A outer s H E).ask) (S:=S) (ex:=fun _=>EX) (lv:=0) ?_ (cA st) hk;refine ⟨⟨rfl,hS.nd,fun i y e1 e2=>?_,fun i y e1 e2 => .inl ((gP hv e1).2.2.2.2 e2),fun j y g e=>?_,hr.units,fun z=>hc.symm.trans z,(awB hE).ask,fun _=>rfl⟩,fun i y e1 e2=>(gP hv e1).2.2.1 e2,fun i y e1 e2=>(gP hv e1).2.2.2.1 e2,fun _ _ _ _=>rfl,fun j y a e _=>(hg j y _ e).2,fun _=>own1 (qt:=qt) (P:=P) (w:=w) (K:=K) (mg:=mg) (base:=base) (N:=S.N) (qual:=qual) (scope:=aH st) (f:=f) (cd:=cdv) (A:=A) (outer:=outer) (s₀:=s) (H₀:=H) (E:=E),fun _ _=>(awC hE).ask,rfl,rfl⟩
    . obtain ⟨a1,a2,a3,a4⟩:=gP hv e1;exact ⟨a0J (a3 e2),a1,a2⟩
    . obtain ⟨a1,a2,a3⟩:=aa2 hv e;exact ⟨a1,a2,a3,aa3 ⟨rfl,rfl,rfl,rfl,rfl⟩ hr hc (hg j y g e)⟩
  refine z.imp fun vs H Q E ⟨ds,G,R,EX,r,g,⟨hl,q⟩,kk,hE⟩=>⟨ds,G,cP R,fV EX,r,g,⟨hl,q⟩,fun v H' d G' r1 g1 ⟨G0,l,q⟩=>kk v H' d G0 r1 (g1.le l) q,a5L hE⟩
end
noncomputable def lamOf (qual x:Str) (s:Stmt):yK:=match cA s with
  | [.Return (some (.Call _ _ [⟨_,.Lambda a b sc p,_⟩] _)) _]=>⟨qual ++ ".<locals>." ++ "<lambda>",a,b,sc,x,p⟩
  | _=>⟨"",jY s,.Name "" ⟨0,0,0,0⟩,aH s, "",⟨0,0,0,0⟩⟩
end L4
namespace L2
open PySem PySem.Spec PyProof.Rows
variable {b:Addr}{qt:Bool}{x:Str}
section
open PySem.W
noncomputable abbrev tbs (TL:List (Addr×Addr)):List Addr:=TL.map (·.2)
noncomputable def aeA (TL:List (Addr×Addr)) (H:Hp):Prop:=(∀ t∈tbs TL,H t=some (.vB #[]))/\∀ b,b ∉ tbs TL->H b=none∨∃ o xs,H b=some (.nQ o (.lst xs))
noncomputable def H0 (K:bx) (TL:List (Addr×Addr)) (a:Addr) (o:Obj) (ns:List Int):Hp:=fun b=>if b∈tbs TL then some (.vB #[]) else if b=a/\K.lookup a=none then some (.nQ o (.lst (ns.map V.int))) else none
section
variable {K:bx} {TL:List (Addr×Addr)} {a:Addr} {o:Obj} {ns:List Int} {h:Heap} {vs:List Value}
theorem H0.tab (hb:b∈tbs TL):H0 K TL a o ns b=some (.vB #[]):=if_pos hb
theorem H0.cases {b:Addr} {u:HO} (e:H0 K TL a o ns b=some u):(b∈tbs TL/\u = .vB #[])∨(b ∉ tbs TL/\b=a/\K.lookup a=none/\u = .nQ o (.lst (ns.map V.int))):=by
  unfold H0 at e;by_cases c:b∈tbs TL
  . rw [if_pos c] at e;cases e;exact .inl ⟨c,rfl⟩
  . rw [if_neg c] at e;by_cases d:b=a/\K.lookup a=none
    . rw [if_pos d] at e;cases e;exact .inr ⟨c,d.1,d.2,rfl⟩
    . rw [if_neg d] at e;cases e
theorem H0.only:aeA TL (H0 K TL a o ns):=⟨fun t ht=>H0.tab ht,fun b hb=>by
  cases e:H0 K TL a o ns b with
  | none=>exact .inl rfl
  | some u =>
    rcases H0.cases e with z | z
    . exact absurd z.1 hb
    . rw [z.2.2.2];exact .inr ⟨_,_,rfl⟩⟩
theorem H0.out {q:Obj} (ho:h.get? a=some o) (hd:∃ its n,o.data = .seq its n) (hT:∀ t∈tbs TL,h.get? t=some (tabObj #[])) (e:h.get? b=some q) (n1:q≠tabObj #[]) (n2:q≠o):H0 K TL a o ns b=none:=by
  cases z:H0 K TL a o ns b with
  | none=>rfl
  | some u =>
    exfalso;rcases H0.cases z with y | y
    . rw [hT b y.1] at e;exact n1 (gw.inj e).symm
    . rw [y.2.1,ho] at e;exact n2 (gw.inj e).symm
end
theorem aeB {P:Program} {w:World} {K:bx} {mg mb:Str->Option Value} {CX:CXT} {k:Nat} {fa a:Addr} {TL:List (Addr×Addr)} {fd:FuncData} {sp:Sp} {s₁:Shared} {vs:List Value} {ns:List Int}
    (KX:K.In s₁.heap) (hns:s₁.heap.Ns mainGlobals mg) (hb:s₁.heap.Ns builtinsNs mb) (hbb:∀ x:Str,x ≠ "__name__" -> mb x=bootBuiltins x) (hlim:s₁.heap.NoLimit) (hg:s₁.gens=#[])
    (ha:s₁.heap.get? a=some { cls := .type "list",data := .seq vs.toArray }) (hi:IntsAre vs ns) (hl:ns.length<=sizeLine) (hr:cO qt k callerA)
    (hC:∀ p∈TL,CodeHd s₁.heap p.1 p.2/\s₁.heap.get? p.2=some (tabObj #[])/\K.lookup p.2=none) (hbm:∃ bm o,mg "__builtins__" = some (.ref bm)/\bm≠builtinsNs/\bm≠mainGlobals/\s₁.heap.get? bm=some o/\o.cls = .type "module" /\ o.dict=some builtinsNs/\o.data = .plain)
    (F:∀ base:Heap,K.In base->base.Ns mainGlobals mg->(∀ p∈TL,base.BuiltinsAt mg p.2/\CodeHd base p.1 p.2)->cG qt P w K mg base CX k fa fd [x] sp) (hbind:∀ (s:Shared) (u:Value),BindsTo s fd ⟨[u],[]⟩ [(x,u)])
    (hsp:∀ H:Hp,aeA TL H->yG K H a (ns.map V.int)->sp [.ref a] H (fun v _=>v = .bl true) fun _ _ _=>False)
    (hCX:∀ H e s',CX [] H s₁ (fun _ _ _=>False) e s'->False) :
    codeAny (model P w) callerA (.call (.ref fa) ⟨[.ref a],[]⟩) (fun r s'=>r = .ok (.ret (.bool true))/\OldK s₁.heap s'.heap/\s'.os=s₁.os/\AllBare s'.gens) s₁:=by
  have hT:∀ t∈tbs TL,s₁.heap.get? t=some (tabObj #[]):=fun t ht=>by
    obtain ⟨p,hp,rfl⟩:=jc.mp ht;exact (hC p hp).2.1
  have hKT:∀ t∈tbs TL,K.lookup t=none:=fun t ht=>by
    obtain ⟨p,hp,rfl⟩:=jc.mp ht;exact (hC p hp).2.2
  have hs:∃ its n,({ cls := .type "list",data := .seq vs.toArray }:Obj).data = .seq its n:=⟨_,_,rfl⟩;have out:∀ {b:Addr} {q:Obj},s₁.heap.get? b=some q->q≠tabObj #[]->q≠{ cls := .type "list",data := .seq vs.toArray }->(a3U s₁.heap (H0 K TL a { cls := .type "list",data := .seq vs.toArray } ns)).get? b=some q:=fun e n1 n2=>aaY e (H0.out ha hs hT e n1 n2);have nsK:∀ {b:Addr} {m:Str->Option Value},s₁.heap.Ns b m->(a3U s₁.heap (H0 K TL a { cls := .type "list",data := .seq vs.toArray } ns)).Ns b m:=fun ⟨q,es,ep,e,d,r⟩=>⟨q,es,ep,out e (fun z=>by rw [z] at d;cases d) (fun z=>by rw [z] at d;cases d),d,r⟩
  have hok:qL P w (H0 K TL a { cls := .type "list",data := .seq vs.toArray } ns) s₁.heap:=fun b u e=>by
    rcases H0.cases e with ⟨h1,rfl⟩ | ⟨_,rfl,_,rfl⟩
    . exact hT b h1
    . exact ⟨ha,by rw [au];exact hl,vs,_,a1R hi,ha⟩
  have sq:yG K (H0 K TL a { cls := .type "list",data := .seq vs.toArray } ns) a (ns.map V.int):=by
    have na:a ∉ tbs TL:=fun z=>by
      have:=hT a z;rw [ha] at this;cases this
    cases hk:K.lookup a with
    | none=>exact .inl (.inr ⟨{ cls := .type "list",data := .seq vs.toArray },(if_neg na).trans (if_pos ⟨rfl,hk⟩)⟩)
    | some q =>
      have e:=KX a q hk;rw [ha] at e;cases e;exact .inr ⟨_,vs.toArray,_,hk,rfl,rfl,rfl,by rw [bh,hi.length];exact hl,by simpa using a1R hi⟩
  have hKb:K.In (a3U s₁.heap (H0 K TL a { cls := .type "list",data := .seq vs.toArray } ns)):=fun b q e=>aaY (KX b q e) (by
    cases z:H0 K TL a { cls := .type "list",data := .seq vs.toArray } ns b with
    | none=>rfl
    | some u =>
      rcases H0.cases z with y | y
      . rw [hKT b y.1] at e;cases e
      . rw [y.2.1,y.2.2.1] at e;cases e)
  have hM:Mod K mg (a3U s₁.heap (H0 K TL a { cls := .type "list",data := .seq vs.toArray } ns)):=⟨hKb,nsK hns,⟨mb,nsK hb,hbb⟩,hlim.elim fun mc z=>⟨mc,nsK z.1,z.2⟩⟩
  have hCb:∀ p∈TL,(a3U s₁.heap (H0 K TL a { cls := .type "list",data := .seq vs.toArray } ns)).BuiltinsAt mg p.2/\CodeHd (a3U s₁.heap (H0 K TL a { cls := .type "list",data := .seq vs.toArray } ns)) p.1 p.2:=fun p hp=>by
    obtain ⟨c1,c2,_⟩:=hC p hp;obtain ⟨bm,q,b1,b2,b3,b4,b5,b6,b7⟩:=hbm;obtain ⟨oc,vs',file,tf,flags,tg,inF,text,tt,e,d1,d2,r⟩:=c1;refine ⟨⟨bm,q,b1,b2,b3,fun z=>?_,out b4 (fun z=>by rw [z] at b7;cases b7) (fun z=>by rw [z] at b7;cases b7),b5,b6,b7⟩,oc,vs',file,tf,flags,tg,inF,text,tt,out e (fun z=>by rw [z] at d1;cases d1) (fun z=>by rw [z] at d2;cases d2),d1,d2,r⟩;rw [z,c2] at b4;cases b4;cases b5
  have e0:vG P w K mg (a3U s₁.heap (H0 K TL a { cls := .type "list",data := .seq vs.toArray } ns)) callerA [] s₁ (H0 K TL a { cls := .type "list",data := .seq vs.toArray } ns):=⟨rfl,hM,fun b q e=>ao4 e,wu (ahS _ _),trivial,fun b hb=>(yt (show b∈([]:List Addr) from hb)).elim,hok,.of_eq hg,.inl rfl⟩;refine codeAny_mono ((F _ hKb (nsK hns) hCb).run callerA [] s₁ _ ⟨[.ref a],[]⟩ [.ref a] [.ref a] _ _ hr e0 (hbind s₁ (.ref a)) (.cons rfl .nil) (hsp _ H0.only sq)) fun r s' h=>?_;cases r with
  | error e=>exact (hCX _ e s' h).elim
  | ok fl =>
    cases fl with
    | ret u =>
      obtain ⟨v,H',os,bare,un,hok',r',q⟩:=h;obtain rfl:v = .bl true:=q;obtain rfl:u=Value.bool true:=r'
      have old:∀ b q,b ∉ tbs TL->s₁.heap.get? b=some q->s'.heap.get? b=some q:=fun b q bT e=>by
        rcases H0.only (K:=K) (TL:=TL) (a:=a) (o:={ cls := .type "list",data := .seq vs.toArray }) (ns:=ns) |>.2 b bT with z | ⟨ob,xs,z⟩
        . exact un.keep b q e z (fun y=>(yt (show b∈([]:List Addr) from y)).elim) (by simp)
        . have e1:=(hok b _ z).1;have e2:=(hok' b _ (un.dI b ob _ z)).1;rw [e] at e1;cases e1;exact e2
      have tab:∀ t∈tbs TL,∃ more,s'.heap.get? t=some (tabObj (#[]++more)):=fun t ht=>by
        obtain ⟨more,e⟩:=un.mL t _ (H0.tab ht);exact ⟨more,hok' t _ e⟩
      refine ⟨rfl,⟨fun b q e=>?_,fun b q e=>?_⟩,os,bare⟩
      . by_cases bT:b∈tbs TL
        . obtain ⟨more,hT'⟩:=tab b bT;obtain ⟨p,hp,rfl⟩:=jc.mp bT;rw [(hC p hp).2.1] at e;cases e;exact .inr (.inl ⟨((hC p hp).1.tab (hC p hp).2.1).isCodeTable,rfl,#[],#[]++more,rfl,by rw [Array.empty_append];simpa using hT'⟩)
        . exact .inl (old b q bT e)
      . by_cases bT:b∈tbs TL
        . obtain ⟨more,hT'⟩:=tab b bT;exact ⟨_,hT'⟩
        . exact ⟨q,old b q bT e⟩
    | next=>exact False.elim h
    | brk=>exact False.elim h
    | cont=>exact False.elim h
theorem aiP {l:PySem.W.OpenLaw} {n k:Nat} {q:Program} {loose:List Str} {XP:(Str->Option Value)->Heap->Prop} {YP:World->Heap->Prop} {d:DefRec} {K:Params->bx} {CX:World->CXT} {sp:World->Sp} {xs:List Str} {TL:World->List (Addr×Addr)}
    (hn:l.most=some n) (hn2:n<=sizeLine) (hdf:d.params.defaults=[]) (hr:cO qt k callerA)
    (hY:∀ (w:World) (h:Heap),YP w h->(K w.params).In h) (hdm:∀ y∈xs,((recsOf q).find? (fun e=>e.name == y)).isSome=true) (ht:∀ w,∀ p∈TL w,∃ y∈xs,tabIn (K w.params) y=some p) (hKT:∀ w,∀ p∈TL w,(K w.params).lookup p.2=none)
    (F:∀ (w:World) (mg:Str->Option Value) (fa:Addr) (h:Heap),(K w.params).In h->h.Ns mainGlobals mg->mg d.name=some (.ref fa) ->
      ∃ fd:FuncData,(∀ (s:Shared) (u:Value),BindsTo s fd ⟨[u],[]⟩ [(x,u)]) /\
        ∀ base:Heap,(K w.params).In base->base.Ns mainGlobals mg->(∀ p∈TL w,base.BuiltinsAt mg p.2/\CodeHd base p.1 p.2)->cG qt l.prog w (K w.params) mg base (CX w) k fa fd [x] (sp w))
    (hsp:∀ (w:World) (H:Hp) (a:Addr) (ns:List Int),ns.length<=n->aeA (TL w) H->yG (K w.params) H a (ns.map V.int)->sp w [.ref a] H (fun v _=>v = .bl true) fun _ _ _=>False)
    (hCX:∀ (w:World) (H:Hp) (s:Shared) (e:Value) (s':Shared),CX w [] H s (fun _ _ _=>False) e s'->False) :
    PySem.W.WalkO q loose XP YP l.row.toRowW d [] (fun f vs=>PySem.call f vs):=by
  refine Att.ab3 hn hdf fun w s₀ s₁ mg mb fa o pm cd doc a vs ns G Y ho hd hcd hmg hobj hints hlen hg=>?_;have KX:=hY w _ Y;obtain ⟨fd,hb,hF⟩:=F w mg fa _ KX G.T.g hmg;obtain ⟨bm,ob,b1,b2,b3,b4,b5,b6⟩:=G.T.bmain
  have bG:bm≠mainGlobals:=fun z=>by
    obtain ⟨o,es,ep,e,hd,_⟩:=G.T.g;rw [z,e] at b3;cases b3;rw [hd] at b6;cases b6
  refine aeB (TL:=TL w) KX G.T.g G.T.b G.T.builtins G.T.nolimit hg hobj hints (jd hlen hn2) hr (fun p hp=>?_) ⟨bm,ob,b1,b2,bG,b3,b4,b5,b6⟩ hF hb (fun H hO hS=>hsp w H a ns hlen hO hS) fun H e s'=>hCX w H s₁ e s';obtain ⟨y,hy,e⟩:=ht w p hp;obtain ⟨dm,hdm⟩:=wz.mp (hdm y hy);obtain ⟨t1,t2⟩:=tab_of G.T KX hdm e;exact ⟨t1,t2,hKT w p hp⟩
end
end L2
namespace L4
open PySem PySem.Spec PyProof.Rows L2
variable {P:Str->GT->Prop}
theorem gln:∀ (j:Nat) (y:Str) (g:GT),([]:List (Str×GT))[j]?=some (y,g)->P y g:=fun j y g h=>by simp at h
theorem iR {x:Str} {g:GT} {l:List (Str×GT)} (h:P x g) (r:∀ (j:Nat) (y:Str) (g:GT),l[j]?=some (y,g)->P y g):∀ (j:Nat) (y:Str) (g':GT),((x,g) :: l)[j]?=some (y,g')->P y g'
  | 0,y,g',e=>by simp at e;obtain ⟨e1,e2⟩:=e;subst e1;subst e2;exact h
  | j+1,y,g',e=>r j y g' (by simpa using e)
variable {ds:List D}
section
variable {P:Program} {w:World} {K:Fg} {mg:Str->Option Value} {base:Heap} {k:Nat} {x:Str}
theorem gcI {z:Int} (h:∃ t,mg x=some (.int z t)):GTs P w K mg base k x (.con (.int z)):=by
  obtain ⟨t,h⟩:=h;exact ⟨_,.int z,h,⟨t,rfl⟩,fun _ => .int z⟩
theorem gcT (h:∃ a,mg x=some (.ref a)/\∀ H,RD K H (.tup ds) (.ref a)):GTs P w K mg base k x (.con (.tup ds)):=by
  obtain ⟨a,h,r⟩:=h;exact ⟨_,.ref a,h,rfl,r⟩
end
theorem ayI {K:Fg} {a:Addr} {its:Array Value} {n:Nat} {sl:Array (Option Value)} {xs:List V} (h:K.lookup a=some ⟨.type "tuple",none,.seq its n,sl⟩) (hz:its.size<=sizeLine) (v:Vals xs its.toList) (r:∀ H,bR K H ds xs) (H:Hp):RD K H (.tup ds) (.ref a) :=
  .tup (.inr ⟨_,its,n,h,rfl,rfl,rfl,hz,v⟩) (r H) trivial
theorem a0K:bootBuiltins "range" = some (.type "range"):=by decide +kernel
end L4
namespace L4
open PySem PySem.Spec PyProof.Rows L2
theorem agM {K:Fg} {fd:FuncData} {ps:List Str} (h:∀ us:List Value,us.length=ps.length->bindArgs fd ⟨us,[]⟩=pure (ps.zip us)):Binds K fd ps []:=Binds.all h
end L4
namespace L5
open PySem PySem.Spec PyProof.Rows L2 L4
noncomputable def onB (x:D) (f:Bool->Prop):Prop:=match x with
  | .bl k=>f k
  | _=>False
noncomputable def onI (x:D) (f:Int->Prop):Prop:=match x with
  | .int k=>f k
  | _=>False
theorem ayJ {k:Bool} {f:Bool->Prop}:onB (.bl k) f=f k:=rfl
theorem arC {k:Int} {f:Int->Prop}:onI (.int k) f=f k:=rfl
noncomputable def yU (xs:List D):Prop:=xs.length<=sizeLine
theorem ayK:yU []=True:=eq_true (show 0<=sizeLine by decide)
variable {a0:D}
theorem ayL:yU [a0]=True:=eq_true (show 1<=sizeLine by decide)
variable {a1:D}
theorem ayM:yU [a0,a1]=True:=eq_true (show 2<=sizeLine by decide)
variable {a2:D}
theorem ayN:yU [a0,a1,a2]=True:=eq_true (show 3<=sizeLine by decide)
variable {a3 a4:D}
theorem ayO:yU [a0,a1,a2,a3,a4]=True:=eq_true (show 5<=sizeLine by decide)
variable {a5:D}
theorem ayP:yU [a0,a1,a2,a3,a4,a5]=True:=eq_true (show 6<=sizeLine by decide)
theorem ayQ {a6 a7:D}:yU [a0,a1,a2,a3,a4,a5,a6,a7]=True:=eq_true (show 8<=sizeLine by decide)
variable {i j:Int}{C p q:Addr}{d:D}{o:Option D}{n:Nat}{r:R3}{Q:Bool->Gp->Prop}{z:Str}{xs ys:List D}{b:Bool}
section
variable {t u:bL} {F:fU} {ρ:aP} {G:Gp} {R:fM} {te ta tb tc:cF} {tt tt':xK} {tA:pL} {K:Fg}
theorem au0:aQ t u F ρ G=t { F with nx:=u F } ρ G:=rfl
theorem ayR:cM F ρ G=F.nx ρ G:=rfl
theorem ayS:nY te F ρ G=te ρ G fun _ G1=>F.nx ρ G1:=rfl
theorem aDU:dB te F ρ G=te ρ G F.rt:=rfl
theorem aDV:f9 tt t u F ρ G=tt ρ G fun b G1=>if b=true then t F ρ G1 else u F ρ G1:=rfl
theorem aDW {i:Nat}:bB i te F ρ G=te ρ G fun x G1=>F.nx (sH ρ i x) G1:=rfl
theorem x_raise {EX:aP->aY}:pU EX C tA F ρ G=tA ρ G fun ds G1=>yU ds/\EX ρ C G1:=rfl
theorem aDX {i:Nat} {bd:(aP->aY)->bL}:abC K C i bd t F ρ G=bd (fun ρ1 C' G1=>je K (.ref C') (.ref C)=some true/\∀ x,G1 x=none->t { nx:=fun ρ2 G2=>F.nx (a4Q ρ2 i) G2,rt:=F.rt,bk:=fun ρ2 G2=>F.bk (a4Q ρ2 i) G2,ct:=fun ρ2 G2=>F.ct (a4Q ρ2 i) G2 } (sH ρ1 i (.ref x)) (aM G1 x (.exn C'))) F ρ G:=rfl
theorem x_c:aV d ρ G R=R d G:=rfl
theorem ayT:aB 0 (some d :: ρ) G R=R d G:=rfl
theorem ayU:aB (n+1) (o :: ρ) G R=aB n ρ G R:=rfl
theorem amE:sH (o :: ρ) 0 d=some d :: ρ:=rfl
theorem amF:sH (o :: ρ) (n+1) d=o :: sH ρ n d:=rfl
theorem amG:a4Q (o :: ρ) 0=none :: ρ:=rfl
theorem amH:a4Q (o :: ρ) (n+1)=o :: a4Q ρ n:=rfl
theorem aI9:aG r ta tb ρ G R=ta ρ G fun x G1=>tb ρ G1 fun y G2=>r x y G2 R:=rfl
theorem ayV:bJ te ρ G Q=te ρ G fun x G1=>onB x fun k=>Q k G1:=rfl
theorem arD {r':R3}:pR r r' ta tb tc ρ G R=ta ρ G fun x G1=>tb ρ G1 fun y G2=>r x y G2 fun z G3=>onB z fun k=>if k=true then tc ρ G3 fun w G4=>r' y w G4 R else R (.bl false) G3:=by
  unfold pR;congr 1;funext x G1;congr 1;funext y G2;congr 1;funext z G3;cases z with
  | bl k=>cases k <;> rfl
  | _=>rfl
theorem aDY:ab6 tt tt' ρ G Q=tt ρ G fun c G1=>if c=true then tt' ρ G1 Q else Q false G1:=rfl
theorem aIA:a9E tt tt' ρ G Q=tt ρ G fun c G1=>if c=true then Q true G1 else tt' ρ G1 Q:=rfl
theorem aDZ:a4N tt ρ G Q=tt ρ G fun c G1=>Q (!c) G1:=rfl
theorem ayW:zB ta tb ρ G R=ta ρ G fun x G1=>onB x fun k=>if k=true then tb ρ G1 R else R (.bl false) G1:=by
  unfold zB;congr 1;funext x G1;cases x with
  | bl k=>cases k <;> rfl
  | _=>rfl
theorem ayX:a4O ta ρ G R=ta ρ G fun x G1=>onB x fun k=>R (.bl (!k)) G1:=rfl
theorem aE0:afU ta ρ G R=ta ρ G fun x G1=>onI x fun k=>R (.int (-k)) G1:=rfl
theorem aE1:ai6 tt ta tb ρ G R=tt ρ G fun c G1=>if c=true then ta ρ G1 R else tb ρ G1 R:=rfl
theorem aE2 {Q:List D->Gp->Prop}:aC ρ G Q=Q [] G:=rfl
theorem ayY {Q:List D->Gp->Prop}:aA te tA ρ G Q=te ρ G fun x G1=>tA ρ G1 fun xs G2=>Q (x :: xs) G2:=rfl
theorem aE3:gA tA ρ G R=tA ρ G fun xs G1=>yU xs/\R (.tup xs) G1:=rfl
theorem aE4:lM tA ρ G R=tA ρ G fun xs G1=>yU xs/\∀ p,G1 p=none->R (.ref p) (aM G1 p (.lst xs)):=rfl
theorem aE5:a9L ρ G R=∀ p,G p=none->R (.ref p) (aM G p (.lX false [])):=rfl
theorem x_call {sp:kJ} {ex:aP->aY}:c7 sp ex tA ρ G R=tA ρ G fun ds G1=>sp ds G1 R (ex ρ):=rfl
theorem aIB {r:List D->Gp->fM->Prop}:gB r tA ρ G R=tA ρ G fun xs G1=>r xs G1 R:=rfl
theorem x_m {T:String} {r:RM3}:tM3 T r te tA ρ G R=te ρ G fun x G1=>a76 T G1 x/\tA ρ G1 fun xs G2=>r x xs G2 R:=rfl
theorem arE:a76 "str" G (.str z)=True:=eq_true rfl
theorem mU:a76 "list" G (.ref p)=((bI G p).isSome=true):=by unfold a76;simp
variable {Q:Option Int->Gp->Prop}
theorem amI:vO ρ G Q=Q none G:=rfl
theorem ayZ:a4P te ρ G Q=te ρ G fun x G1=>onI x fun k=>Q (some k) G1:=rfl
theorem arF {tl th:TO3}:a0B te tl th ρ G R=te ρ G fun x G1=>tl ρ G1 fun lo G2=>th ρ G2 fun hi G3=>awU x lo hi G3 R:=rfl
theorem amJ:dH (.int i) (.int j) G R=R (.int (i+j)) G:=rfl
theorem amK {i j:Str}:dH (.str i) (.str j) G R=(i.length+j.length<=sizeLine/\R (.str (i++j)) G):=rfl
theorem aE6:yN (.int i) (.int j) G R=R (.int (i - j)) G:=rfl
theorem au1:uQ (.int i) (.int j) G R=(ajO i j/\R (.int (i * j)) G):=rfl
theorem az0:cZ (.int i) (.int j) G R=(av3 i j/\R (.int (i / j)) G):=rfl
theorem aE7:cL (.int i) (.int j) G R=(0 < j/\R (.int (i % j)) G):=rfl
theorem x_lt:ai7 (.int i) (.int j) G R=R (.bl (decide (i < j))) G:=rfl
theorem aIC:a74 (.int i) (.int j) G R=R (.bl (decide (j < i))) G:=rfl
theorem aID:akD (.int i) (.int j) G R=R (.bl (decide (i<=j))) G:=rfl
theorem arG:v8 (.int i) (.int j) G R=R (.bl (i == j)) G:=by
  show (aO 20 (.int i)=true/\aO 20 (.int j)=true/\_)=_;simp [aO,eqP]
theorem arH:a9I (.int i) (.int j) G R=R (.bl (!(i == j))) G:=by
  show (aO 20 (.int i)=true/\aO 20 (.int j)=true/\_)=_;simp [aO,eqP]
theorem arI {i j:Bool}:v8 (.bl i) (.bl j) G R=R (.bl (i == j)) G:=by
  show (aO 20 (.bl i)=true/\aO 20 (.bl j)=true/\_)=_;simp [aO,eqP]
theorem arJ {i j:Str}:v8 (.str i) (.str j) G R=R (.bl (i == j)) G:=by
  show (aO 20 (.str i)=true/\aO 20 (.str j)=true/\_)=_;simp [aO,eqP]
theorem agN:v8 (.tup xs) (.tup ys) G R=(aO 20 (.tup xs)=true/\aO 20 (.tup ys)=true/\R (.bl (eqP (.tup xs) (.tup ys))) G):=rfl
theorem agO:a9I (.tup xs) (.tup ys) G R=(aO 20 (.tup xs)=true/\aO 20 (.tup ys)=true/\R (.bl (!eqP (.tup xs) (.tup ys))) G):=rfl
theorem xU {ds:List D} (h:bI G q=some ds):yO [.ref q] G R=R (.int ds.length) G:=by unfold yO;simp only [h]
theorem arK:abG [.bl b] G R=R (.int (if b then 1 else 0)) G:=rfl
theorem aa4 (h:yL xs i=some d):cB (.tup xs) (.int i) G R=R d G:=by unfold cB;simp only [h]
theorem jM (e:bI G p=some xs) (h:yL xs i=some d):cB (.ref p) (.int i) G R=R d G:=by unfold cB;simp only [e,h]
theorem ac6:aN K [.non,.ty "int"] G R=R (.bl false) G:=by
  show ("int" ∈ nZ/\R (.bl (L2.subB "NoneType" "int")) G)=_;rw [show L2.subB "NoneType" "int" = false from by decide];simp [nZ]
theorem aa5:aN K [.non,.ty "bool"] G R=R (.bl false) G:=by
  show ("bool" ∈ nZ/\R (.bl (L2.subB "NoneType" "bool")) G)=_;rw [show L2.subB "NoneType" "bool" = false from by decide];simp [nZ]
theorem aeC:aN K [(.bl b),.ty "int"] G R=R (.bl true) G:=by
  show ("int" ∈ nZ/\R (.bl (L2.subB "bool" "int")) G)=_;rw [show L2.subB "bool" "int" = true from by decide];simp [nZ]
theorem ac7:aN K [(.bl b),.ty "bool"] G R=R (.bl true) G:=by
  show ("bool" ∈ nZ/\R (.bl (L2.subB "bool" "bool")) G)=_;rw [show L2.subB "bool" "bool" = true from by decide];simp [nZ]
theorem ac8:aN K [(.int i),.ty "int"] G R=R (.bl true) G:=by
  show ("int" ∈ nZ/\R (.bl (L2.subB "int" "int")) G)=_;rw [show L2.subB "int" "int" = true from by decide];simp [nZ]
theorem aa6:aN K [(.int i),.ty "bool"] G R=R (.bl false) G:=by
  show ("bool" ∈ nZ/\R (.bl (L2.subB "int" "bool")) G)=_;rw [show L2.subB "int" "bool" = false from by decide];simp [nZ]
theorem ac9:aN K [(.str z),.ty "int"] G R=R (.bl false) G:=by
  show ("int" ∈ nZ/\R (.bl (L2.subB "str" "int")) G)=_;rw [show L2.subB "str" "int" = false from by decide];simp [nZ]
theorem aa7:aN K [(.str z),.ty "bool"] G R=R (.bl false) G:=by
  show ("bool" ∈ nZ/\R (.bl (L2.subB "str" "bool")) G)=_;rw [show L2.subB "str" "bool" = false from by decide];simp [nZ]
theorem acA:aN K [(.str z),.ty "str"] G R=R (.bl true) G:=by
  show ("str" ∈ nZ/\R (.bl (L2.subB "str" "str")) G)=_;rw [show L2.subB "str" "str" = true from by decide];simp [nZ]
theorem iM {C':Addr} (h:G q=some (.exn C)) (e:ExC K C) (k:gq K (.ref C) (.ref C')=some b) (z:R (.bl b) G):aN K [.ref q,.ref C'] G R:=by
  unfold aN;simp only [exD,h];exact ⟨b,e,k,z⟩
theorem agP {n:String} (h:G q=some (.exn C)) (e:ExC K C) (k:gq K (.ref C) (.type n)=some b) (z:R (.bl b) G):aN K [.ref q,.ty n] G R:=by
  unfold aN;simp only [exD,tyD,h];exact ⟨b,e,k,z⟩
end
variable {G:Gp}
theorem aK (h:G p=some (.lst xs)):bI G p=some xs:=by unfold bI;rw [h]
theorem w5 (h:G p=some (.rol xs)):bI G p=some xs:=by unfold bI;rw [h]
theorem eN:bI (aM G p (.lst xs)) p=some xs:=aK aD
noncomputable def kn (G:Gp) (d:D):Prop:=(tyD G d).isSome=true
variable {a:D}
section
variable {G:Gp} {R:fM} {K:Fg} {q:Addr}
theorem at0 {α:Type} {a:α} {xs:List α}:yL (a :: xs) 0=some a:=by
  unfold yL ixN;simp
theorem atS {α:Type} {a:α} {xs:List α}:yL (a :: xs) ((n+1:Nat):Int)=yL xs (n:Int):=by
  unfold yL ixN;have h0:(0:Int)<=((n+1:Nat):Int):=by omega
  have h1:(0:Int)<=(n:Int):=by omega
  rw [if_pos h0,if_pos h1];by_cases h:n < xs.length
  . have a1:((n+1:Nat):Int) < ((a :: xs).length:Int):=by simp;omega
    have a2:(n:Int) < (xs.length:Int):=by omega
    rw [if_pos a1,if_pos a2];simp
  . have a1:¬ ((n+1:Nat):Int) < ((a :: xs).length:Int):=by simp;omega
    have a2:¬ (n:Int) < (xs.length:Int):=by omega
    rw [if_neg a1,if_neg a2];rfl
theorem zH {α:Type} {xs:List α}:yL xs (n:Int)=xs[n]?:=by
  unfold yL ixN;rw [if_pos (by omega)];by_cases h:n < xs.length
  . rw [if_pos (by omega)];simp
  . rw [if_neg (by omega)];simp at h;simp [h]
theorem arL:cB (.tup (a :: xs)) (.int 0) G R=R a G:=aa4 at0
variable {b:D}
theorem arM:cB (.tup (a :: b :: xs)) (.int 1) G R=R b G:=aa4 (i:=((1:Nat):Int)) (by rw [atS,zH];rfl)
theorem arN {c:D}:cB (.tup (a :: b :: c :: xs)) (.int 2) G R=R c G:=aa4 (i:=((2:Nat):Int)) (by rw [atS,zH];rfl)
end
theorem a8S (x:Str) {a b:Nat} (hab:a<=b) (hb:b<=x.length):Txt.slice x (some (a:Int)) (some (b:Int))=⟨((x.cps.toList.drop a).take (b - a)).toArray⟩:=by
  exact PySem.StrLaws.sliceText_nat x hab hb
theorem aeD (x:Str) {a:Nat} (h:a<=x.length):Txt.slice x (some (a:Int)) none=⟨(x.cps.toList.drop a).toArray⟩:=by
  have e:Txt.slice x (some (a:Int)) none=Txt.slice x (some (a:Int)) (some (x.length:Int)):=by
    unfold Txt.slice;rw [PySem.StrLaws.sliceIdx_none_hi]
  rw [e,a8S x h (bw _)];congr 2;apply yj;simp [Str.length]
theorem amL (x:Str) {b:Nat} (h:b<=x.length):Txt.slice x none (some (b:Int))=⟨(x.cps.toList.take b).toArray⟩:=by
  have e:Txt.slice x none (some (b:Int))=Txt.slice x (some ((0:Nat):Int)) (some (b:Int)):=by
    unfold Txt.slice;rw [PySem.StrLaws.sliceIdx_none_lo];rfl
  rw [e,a8S x (oh _) h];simp
section
variable {G:Gp} {R:fM} {K:Fg} {q:Addr}
end
section
variable {G:Gp} {R:fM} {K:Fg}
theorem aeE {a b:Addr} (h1:bI G a=some xs) (h2:bI G b=some ys) (s1:xs.all (aO 20)=true) (s2:ys.all (aO 20)=true):v8 (.ref a) (.ref b) G R=R (.bl (jJ xs ys)) G:=by
  show eqG G (.ref a) (.ref b) (fun b=>R (.bl b) G)=_;unfold eqG;simp only [h1,h2,s1,s2,true_and]
theorem a5M {a b:Addr} (h1:bI G a=some xs) (h2:bI G b=some ys) (s1:xs.all (aO 20)=true) (s2:ys.all (aO 20)=true):a9I (.ref a) (.ref b) G R=R (.bl (!jJ xs ys)) G:=by
  show eqG G (.ref a) (.ref b) (fun b=>R (.bl (!b)) G)=_;unfold eqG;simp only [h1,h2,s1,s2,true_and]
end
section
variable {G:Gp} {R:fM} {K:Fg} {i j:Int}
theorem az1 (h:-18446744073709551616 < i/\i < 18446744073709551616):uQ (.int i) (.int j) G R=R (.int (i * j)) G:=by
  rw [au1];exact propext ⟨fun z=>z.2,fun z=>⟨.inl ⟨by have:=h.1;omega,by have:=h.2;omega⟩,z⟩⟩
theorem az2 (h:-18446744073709551616 < j/\j < 18446744073709551616):uQ (.int i) (.int j) G R=R (.int (i * j)) G:=by
  rw [au1];exact propext ⟨fun z=>z.2,fun z=>⟨.inr ⟨by have:=h.1;omega,by have:=h.2;omega⟩,z⟩⟩
theorem arO (h:0 < j/\j < 1073741824):cZ (.int i) (.int j) G R=R (.int (i / j)) G:=by
  rw [az0];exact propext ⟨fun z=>z.2,fun z=>⟨h,z⟩⟩
theorem az3 (h:0 < j):cL (.int i) (.int j) G R=R (.int (i % j)) G:=by
  rw [aE7];exact propext ⟨fun z=>z.2,fun z=>⟨h,z⟩⟩
end
section
variable {G:Gp} {R:fM} {K:Fg} {i j:Int}
end
section
variable {P Q:Prop} {b c:Bool} {α:Type} {a:α} {l:List α}
theorem aeF:(True/\P)=P:=true_and P
theorem aeG:(!true)=false:=rfl
theorem acB:(!false)=true:=rfl
theorem amM:((!b)=true)=(b=false):=by cases b <;> simp
theorem aiQ:(if True then P else Q)=P:=if_true ..
theorem aeH:(if False then P else Q)=Q:=if_false ..
theorem aE8:(false=true)=False:=by simp
theorem aE9:(true=false)=False:=by simp
theorem aeI:(a :: l).length=l.length+1:=lq
theorem aiR:([]:List α).length=0:=rfl
theorem aiS {β:Type} {f:α->β}:(l.map f).length=l.length:=au ..
end
end L5
namespace L6
open PySem PySem.Spec PyProof.Rows L2 L4 L5
noncomputable def az4 (x:D) (G:Gp) (Q:Src->Gp->Prop):Prop:=match x with
  | .ref p=>(match bI G p with
    | some xs=>Q (.lst p xs) G
    | none=>False)
  | .tup xs=>Q (.imm xs) G
  | .str z=>Q (.imm (signs z)) G
  | _=>False
noncomputable def amN (x:D) (G:Gp) (Q:Src->Gp->Prop):Prop:=match x with
  | .ref p=>(match bI G p with
    | some xs=>Q (.lst p xs) G
    | none=>False)
  | .str z=>Q (.imm (signs z)) G
  | .tup xs=>xs.all scD=true/\∀ a,(G a=none∨G a=some (.tpl xs))->Q (.tpl a xs) (aM G a (.tpl xs))
  | _=>False
noncomputable def au2 (xs:List D) (G:Gp) (Q:Src->Gp->Prop):Prop:=match xs with
  | [.int j]=>-(2 ^ 62)<=j/\j < 2 ^ 62/\Q (.imm (yJ 0 j)) G
  | _=>False
section
variable {te:cF} {ta:pL} {ρ:aP} {G:Gp} {Q:Src->Gp->Prop} {p:Addr} {xs:List D} {z:Str} {i j:Int}
theorem arP:vX te ρ G Q=te ρ G fun x G1=>az4 x G1 Q:=rfl
theorem aEA:a9R te ρ G Q=te ρ G fun x G1=>amN x G1 Q:=rfl
theorem az5:sS ta ρ G Q=ta ρ G fun xs G1=>au2 xs G1 Q:=rfl
theorem wA (h:bI G p=some xs):az4 (.ref p) G Q=Q (.lst p xs) G:=by unfold az4;simp only [h]
theorem rN (h:bI G p=some xs):amN (.ref p) G Q=Q (.lst p xs) G:=by unfold amN;simp only [h]
theorem arQ (h:-4611686018427387904<=j/\j < 4611686018427387904):au2 [.int j] G Q=Q (.imm (yJ 0 j)) G:=by
  show (_/\_/\_)=_;exact propext ⟨fun z=>z.2.2,fun z=>⟨by omega,by omega,z⟩⟩
end
noncomputable def agQ (dv:D->Option (List D)) (src:Src) (tc:xK) (te:cF) (ρ:aP) (G1:Gp) (R:fM):Prop:=src.items.length < sizeLine/\∀ p,G1 p=none->∃ P:Nat->List D->Gp->Prop,P 0 [] (aM G1 p (.lst [])) /\
  (∀ k ds G,k<=src.items.length->P k ds G->src.ok G/\G p=some (.lst ds)/\ds.length<=k) /\
  (∀ k d ds G,src.items[k]?=some d->P k ds G->∃ ys,dv d=some ys/\tc (ys.map some++ρ) G fun b G2=>if b=true then te (ys.map some++ρ) G2 fun y G3=>G3 p=some (.lst ds)/\P (k+1) (ds++[y]) (aM G3 p (.lst (ds++[y]))) else P (k+1) ds G2) /\
  ∀ ds G,P src.items.length ds G->∃ G0,Le G0 G/\R (.ref p) G0
variable {dv:D->Option (List D)}{ti:TI3}{tc:xK}{te:cF}{ρ:aP}{G:Gp}{R:fM}
theorem az6:a0C dv ti tc te ρ G R=ti ρ G fun src G1=>agQ dv src tc te ρ G1 R:=rfl
variable {G':Gp}{p:Addr}{xs:List D}
theorem a0L (l:Le G G') (h:bI G p=some xs):bI G' p=some xs:=by
  unfold bI at h ⊢;split at h
  . rename_i e;rw [l _ _ e];exact h
  . rename_i e;rw [l _ _ e];exact h
  . cases h
variable {src:Src}
theorem aEB (l:Le G G') (h:src.ok G):src.ok G':=by
  cases src with
  | lst p xs=>exact a0L l h
  | imm xs=>trivial
  | zip p q xs ys=>exact ⟨a0L l h.1,a0L l h.2⟩
  | itm p o kvs=>exact l _ _ h
  | key p o t kvs=>exact l _ _ h
  | tpl p xs=>exact l _ _ h
  | enu p xs=>exact l _ _ h
variable {o:GO}
theorem az7 {o':GO} (l:Le (aM G p o) G'):Le (aM G p o') (aM G' p o'):=fun a u e=>by
  by_cases h:a=p
  . subst h;rw [aD] at e ⊢;exact e
  . rw [aX h] at e ⊢;exact l a u (by rw [aX h];exact e)
theorem acC (v:D->List D) (c:D->Bool) (f:D->D) (hl:src.items.length < sizeLine) (hok:src.ok G) (hv:∀ d∈src.items,dv d=some (v d))
    (hc:∀ d∈src.items,∀ G',Le G G'->∀ Q:Bool->Gp->Prop,(∀ G'',Le G' G''->Q (c d) G'')->tc ((v d).map some++ρ) G' Q)
    (he:∀ d∈src.items,c d=true->∀ G',Le G G'->∀ Q:D->Gp->Prop,(∀ G'',Le G' G''->Q (f d) G'')->te ((v d).map some++ρ) G' Q)
    (h:∀ p,G p=none->R (.ref p) (aM G p (.lst ((src.items.filter c).map f)))):agQ dv src tc te ρ G R:=by
  refine ⟨hl,fun p hp=>⟨fun k ds G'=>ds=((src.items.take k).filter c).map f/\Le (aM G p (.lst ds)) G',⟨rfl,.refl _⟩,fun k ds G' hk ⟨e,l⟩=>?_,fun k d ds G' hd ⟨e,l⟩=>?_,fun ds G' ⟨e,l⟩=>?_⟩⟩
  . refine ⟨aEB ((Le.new hp).trans l) hok,l p _ aD,?_⟩;rw [e,au];exact jd (List.length_filter_le _ _) (by rw [ou];omega)
  . have hm:d∈src.items:=jk hd
    have ht:src.items.take (k+1)=src.items.take k++[d]:=by
      rw [List.take_succ,hd];rfl
    refine ⟨v d,hv d hm,hc d hm G' ((Le.new hp).trans l) _ fun G2 l2=>?_⟩;cases hcd:c d with
    | true =>
      rw [if_pos rfl];refine he d hm hcd G2 (((Le.new hp).trans l).trans l2) _ fun G3 l3=>?_;have l4:=(l.trans l2).trans l3;refine ⟨l4 p _ aD,?_,az7 l4⟩;rw [ht,List.filter_append,jx,← e];simp [hcd]
    | false =>
      rw [if_neg (by decide)];refine ⟨?_,l.trans l2⟩;rw [ht,List.filter_append,jx,← e];simp [hcd]
  . rw [qb] at e;subst e;exact ⟨_,l,h p hp⟩
theorem agR (c:D->Bool) (f:D->D) (hl:src.items.length < sizeLine) (hok:src.ok G)
    (hc:∀ d∈src.items,∀ G',Le G G'->∀ Q:Bool->Gp->Prop,(∀ G'',Le G' G''->Q (c d) G'')->tc (some d :: ρ) G' Q)
    (he:∀ d∈src.items,c d=true->∀ G',Le G G'->∀ Q:D->Gp->Prop,(∀ G'',Le G' G''->Q (f d) G'')->te (some d :: ρ) G' Q)
    (h:∀ p,G p=none->R (.ref p) (aM G p (.lst ((src.items.filter c).map f)))):agQ adZ src tc te ρ G R:=acC (fun d=>[d]) c f hl hok (fun _ _=>rfl) hc he h
theorem comp_map (f:D->D) (hl:src.items.length < sizeLine) (hok:src.ok G)
    (he:∀ d∈src.items,∀ G',Le G G'->∀ Q:D->Gp->Prop,(∀ G'',Le G' G''->Q (f d) G'')->te (some d :: ρ) G' Q)
    (h:∀ p,G p=none->R (.ref p) (aM G p (.lst (src.items.map f)))):agQ adZ src vY te ρ G R :=
  agR (fun _=>true) f hl hok (fun d _ G' _ Q h=>h G' (.refl _)) (fun d hd _=>he d hd) fun p hp=>by
    have:src.items.filter (fun _=>true)=src.items:=zy.mpr fun _ _=>rfl;rw [this];exact h p hp
noncomputable def amO (src:Src) (tg:TG3) (tb:bL) (F:fU) (ρ:aP) (G1:Gp):Prop:=∃ P:Nat->aP->Gp->Prop,P 0 ρ G1/\(∀ k ρ G,k<=src.items.length->P k ρ G->src.ok G) /\
  (∀ k d ρ G,src.items[k]?=some d->P k ρ G->tg d ρ fun ρ2=>tb { F with nx:=P (k+1),ct:=P (k+1),bk:=F.nx } ρ2 G)/\∀ ρ G,P src.items.length ρ G->F.nx ρ G
variable {tg:TG3}{tb:bL}{F:fU}
theorem amP:lY ti tg tb F ρ G=ti ρ G fun src G1=>amO src tg tb F ρ G1:=rfl
variable {i:Nat}{d:D}{Q:aP->Prop}
theorem arR:oA i d ρ Q=Q (sH ρ i d):=rfl
variable {is:List Nat}{ds:List D}
theorem aa8 (h:ds.length=is.length):a4Y is (.tup ds) ρ Q=Q (a2K ρ is ds):=propext ⟨fun z=>z.2,fun z=>⟨h,z⟩⟩
theorem arS:a2K ρ is []=ρ:=by cases is <;> rfl
theorem agS:a2K ρ (i :: is) (d :: ds)=a2K (sH ρ i d) is ds:=rfl
variable {j:Int}
theorem a5N (P:Nat->aP->Gp->Prop) (h0:P 0 ρ G)
    (hb:∀ (k:Nat) ρ G,(k:Int) < j->P k ρ G->tg (.int k) ρ fun ρ2=>tb { F with nx:=P (k+1),ct:=P (k+1),bk:=F.nx } ρ2 G) (he:∀ ρ G,P j.toNat ρ G->F.nx ρ G):amO (.imm (yJ 0 j)) tg tb F ρ G:=by
  have hlen:(Src.imm (yJ 0 j)).items.length=j.toNat:=by simp [Src.items,yJ]
  refine ⟨P,h0,fun _ _ _ _ _=>trivial,fun k d ρ G hd p=>?_,fun ρ G p=>he ρ G (hlen ▸ p)⟩;have hk:k < j.toNat:=by rw [← hlen];exact (cj.mp hd).1
  have e:d = .int k:=by
    have:(yJ 0 j)[k]?=some d:=hd;unfold yJ at this;rw [jo,List.getElem?_range (by omega)] at this;simp at this;exact this.symm
  subst e;exact hb k ρ G (by omega) p
variable {q:Addr}
theorem wB (P:Nat->aP->Gp->Prop) (h0:P 0 ρ G) (hs:∀ k ρ G,P k ρ G->bI G q=some xs)
    (hb:∀ k d ρ G,xs[k]?=some d->P k ρ G->tg d ρ fun ρ2=>tb { F with nx:=P (k+1),ct:=P (k+1),bk:=F.nx } ρ2 G) (he:∀ ρ G,P xs.length ρ G->F.nx ρ G):amO (.lst q xs) tg tb F ρ G :=
  ⟨P,h0,fun k ρ G _ p=>hs k ρ G p,hb,he⟩
section
variable {G:Gp} {R:fM}
variable {i:Int}
theorem aEC:vZ [.int i,.int j] G R=R (.int (if j < i then j else i)) G:=rfl
theorem aED:a9T [.int i,.int j] G R=R (.int (if i < j then j else i)) G:=rfl
theorem rO (h:G p=some (.lst ds)) (hl:ds.length < sizeLine):gC (.ref p) [d] G R=R .non (aM G p (.lst (ds++[d]))):=by
  unfold gC;simp only [h,hl,true_and]
theorem au3 {b:Addr} {es:List D} (h:G p=some (.lst ds)) (h2:G b=some (.lst es)) (hl:ds.length+es.length<=sizeLine):dH (.ref p) (.ref b) G R=∀ q,G q=none->R (.ref q) (aM G q (.lst (ds++es))):=by
  unfold dH;simp only [h,h2,hl,true_and]
theorem amQ (h:bI G q=some ds):a4S [.ref q] G R=∀ l,G l=none->R (.ref l) (aM G l (.lst ds)):=by
  unfold a4S;simp only [h]
end
theorem jN {a:Addr} (h:G a=some o) (n:G p=none):a≠p:=fun e=>by subst e;rw [h] at n;cases n
theorem len_app {x y:Str}:(x++y).length=x.length+y.length:=by
  show (x.cps++y.cps).size=x.cps.size+y.cps.size;simp
theorem aiT {i j:Str} (h:i.length+j.length<=sizeLine):dH (.str i) (.str j) G R=R (.str (i++j)) G:=by
  rw [amK];exact propext ⟨fun z=>z.2,fun z=>⟨h,z⟩⟩
section
variable {G:Gp} {R:fM} {F:fU} {ρ:aP}
theorem az8:a9S is te F ρ G=te ρ G fun d G1=>a4Y is d ρ fun ρ2=>F.nx ρ2 G1:=rfl
theorem aEE {f:Int->Int->Int}:ag0 i f te F ρ G=aB i ρ G fun x G0=>onN x fun a=>te ρ G0 fun y G1=>onN y fun b=>F.nx (sH ρ i (.int (f a b))) G1:=rfl
theorem aEF {k:Int} {f:Int->Prop}:onN (.int k) f=f k:=rfl
theorem arT {a b:Int}:ayC true a b=a - b:=rfl
theorem arU {c:xK}:a3I c tb F ρ G=∃ W:Nat->aP->Gp->Prop,(∃ m,W m ρ G)/\∀ m ρ G,W m ρ G->c ρ G fun b G1=>if b=true then tb { F with nx:=fun ρ' G'=>∃ m',m' < m/\W m' ρ' G',ct:=fun ρ' G'=>∃ m',m' < m/\W m' ρ' G',bk:=F.nx } ρ G1 else F.nx ρ G1:=rfl
theorem acD:∀ ns ms:List Int,ns.map D.int=ms.map D.int->ns=ms
  | [],[],_=>rfl
  | [],_ :: _,e=>by cases e
  | _ :: _,[],e=>by cases e
  | n :: ns,m :: ms,e=>by
    simp only [iu,List.cons.injEq] at e;obtain ⟨e1,e2⟩:=e;cases e1;rw [acD ns ms e2]
theorem aEG {ns:List Int} (h:bI G q=some (ns.map D.int)):ag1 [.ref q] G R=R (.int ns.sum) G:=by
  refine propext ⟨fun z=>?_,fun z=>?_⟩
  . have z':(match bI G q with
      | some ds=>∃ ns:List Int,ds=ns.map D.int/\R (.int ns.sum) G
      | none=>False):=z
    rw [h] at z';obtain ⟨ms,e,r⟩:=z';rw [acD ns ms e];exact r
  . show (match bI G q with
      | some ds=>∃ ns:List Int,ds=ns.map D.int/\R (.int ns.sum) G
      | none=>False)
    rw [h];exact ⟨ns,rfl,z⟩
end
end L6
namespace L7
open PySem PySem.Spec PyProof.Rows L2 L4 L5 L6
section
variable {ρ:aP} {G:Gp} {R:fM} {F:fU} {p:Addr}
theorem az9:a3H ρ G R=∀ p,G p=none->R (.ref p) (aM G p (.lX true [])):=rfl
end
end L7
namespace L8
open PySem PySem.Spec PyProof.Rows L2 L4 L5 L6 L7
variable {to:cF}{kvs:List (DK×D)}
section
variable {ρ:aP} {G:Gp} {R:fM} {F:fU} {p C:Addr} {f m:Str} {fs:List (Str×D)}
theorem aIE {r:RM3} {t:pL}:alF r to t ρ G R=to ρ G fun x G1=>sX x G1/\t ρ G1 fun xs G2=>r x xs G2 R:=rfl
theorem arV {te tf:cF}:a3K to te tf ρ G R=to ρ G fun x G1=>sX x G1/\te ρ G1 fun y G2=>tf ρ G2 fun z G3=>rH x y G3 fun _ _ kvs k=>R ((gR kvs k).getD z) G3:=rfl
theorem acE {t:Bool} (h:G p=some (.lX t kvs)):sX (.ref p) G=True:=by
  unfold L2.sX;simp only [h]
theorem acF {t:Bool} {y:D} {k:DK} {P:Addr->Bool->List (DK×D)->DK->Prop} (h:G p=some (.lX t kvs)) (hk:al8 y=some k) (ht:a8D k=t):rH (.ref p) y G P=P p t kvs k:=by
  unfold L2.rH;simp only [h,hk];exact propext ⟨fun z=>z.2,fun z=>⟨ht,z⟩⟩
end
end L8
namespace L9
open PySem PySem.Spec PyProof.Rows L2 L4 L5 L6 L7 L8
section
variable {ρ:aP} {G:Gp} {R:fM} {F:fU} {p:Addr}
noncomputable abbrev ky (a p:Int):List Key:=[.inl a,.inl p]
end
end L9
namespace L10
open PySem PySem.Spec PyProof.Rows L2 L4 L5 L6
section
variable {ρ:aP} {G:Gp} {F:fU} {p:Addr} {al t:Bool} {od:Obj} {kvs:List (DK×D)} {Q:Src->Gp->Prop} {tg:TG3} {tb:bL}
end
end L10
namespace L11
open PySem PySem.Spec PyProof.Rows L2 L4 L5 L6
section
variable {ρ:aP} {G:Gp} {F:fU} {p:Addr} {xs:List D} {Q:Src->Gp->Prop} {tg:TG3} {tb:bL} {R:fM}
end
end L11
namespace L12
open PySem PySem.Spec PyProof.Rows L2 L4 L5 L6
variable {ys:List Str}
section
variable {G:Gp} {R:fM} {p:Addr}
theorem amR {j y:Str}:rJ (.str j) [.str y] G R=R (.bl (Txt.startswith j y)) G:=rfl
theorem strs_map:∀ (ys:List Str),pX (ys.map D.str)=some ys
  | []=>rfl
  | y :: r=>by
    show (pX (r.map D.str)).map (y :: ·)=_;rw [strs_map r];rfl
theorem count_at {k:Str} (h:bI G p=some (ys.map D.str)):xQ (.ref p) [.str k] G R=R (.int ((ys.countP (· == k):Nat):Int)) G:=by
  unfold L2.xQ;simp only [h,strs_map]
theorem arW {ds:List D} {d:D} {j:Nat} (h:G p=some (.lst ds)) (hd:ds[j]?=some d) (z:R d (aM G p (.lst (ds.eraseIdx j)))):a1Z (.ref p) [.int (j:Int)] G R:=by
  unfold L2.a1Z L2.a8B;simp only [h];exact ⟨j,d,rfl,hd,z⟩
theorem aiU {k:Str} (j:Nat) (h1:ys[j]?=some k) (h2:∀ m,m < j->ys[m]?≠some k) (z:R (.int j) G):lO (.tup (ys.map D.str)) [.str k] G R:=by
  unfold L2.lO;simp only [strs_map];exact ⟨j,h1,h2,z⟩
end
end L12
namespace Law
open PySem PySem.Spec PyProof.Rows L2 L4 PySem.W
noncomputable def top (i:Nat):Stmt:=PySem.Challenge.pw_depot_k44_picked.main.body.getD i (.Pass ⟨0,0,0,0⟩)
noncomputable abbrev a5O:Stmt:=top 7
noncomputable abbrev a2O:Stmt:=top 8
noncomputable abbrev yV:Stmt:=top 10
noncomputable abbrev a0M:Stmt:=top 13
noncomputable abbrev amS:Stmt:=top 14
noncomputable abbrev a5P:Stmt:=top 15
noncomputable abbrev dO:Stmt:=top 16
noncomputable abbrev a2A:Stmt:=top 17
noncomputable abbrev acG:Stmt:=top 19
noncomputable abbrev wC:Stmt:=top 21
noncomputable abbrev a0N:Stmt:=top 22
noncomputable abbrev yW:Stmt:=top 23
noncomputable abbrev a0O:Stmt:=top 24
noncomputable abbrev wD:Stmt:=top 25
noncomputable abbrev a0P:Stmt:=top 26
noncomputable abbrev yX:Stmt:=top 27
noncomputable abbrev a5Q:Stmt:=top 28
noncomputable abbrev a2P:Stmt:=top 29
noncomputable abbrev acH:Stmt:=top 30
set_option genInjectivity false in
structure bN where
  zJ:Addr
  oK:FuncData
  wF:Addr
  lQ:FuncData
  qN:Addr
  gF:FuncData
  sZ:Addr
  iT:FuncData
  aeJ:Addr
  a5R:FuncData
  zK:Addr
  oM:FuncData
  a2B:Addr
  nG:FuncData
  a2C:Addr
  nH:FuncData
  a5S:Addr
  wG:FuncData
  oN:Addr
  fD:FuncData
  tD:Addr
  iU:FuncData
  qO:Addr
  gG:FuncData
  tE:Addr
  iV:FuncData
  oO:Addr
  fG:FuncData
  tG:Addr
  iW:FuncData
  qP:Addr
  gH:FuncData
  zL:Addr
  oR:FuncData
  wH:Addr
  lR:FuncData
  a2Q:Addr
  amT:FuncData
  cU:Addr
  aZ:Addr
  aW:Addr
  cW:Addr
  eU:Addr
  rP:Addr
  dR:Addr
  rQ:Addr
noncomputable def Bse (base:Heap) (mg:Str->Option Value) (A:bN):Prop:=(base.BuiltinsAt mg A.eU/\CodeHd base A.rP A.eU)/\(base.BuiltinsAt mg A.dR/\CodeHd base A.rQ A.dR)
noncomputable def jO (K:Fg) (A:bN) (ex:aP->aY):bL :=
    (dB (zB (gB (aN K) (aA (aB 0) (aA (aV (.ty "int")) aC))) (zB (a4O (gB (aN K) (aA (aB 0) (aA (aV (.ty "bool")) aC)))) (pR akD akD (aB 1) (aB 0) (aB 2)))))
noncomputable def pZ (K:Fg) (A:bN):kJ:=spD 3 3 fun EX=>jO K A (fun _=>EX)
noncomputable def aeK:CB:=(.cons (.ret (.alW (.cons (.call 1 (.cons (.var 0) (.cons (.glo 0) .nil))) (.cons (.alV (.call 1 (.cons (.var 0) (.cons (.glo 2) .nil)))) (.cons (.chain .LtE .LtE (.var 1) (.var 0) (.var 2)) .nil))))) .nil)
noncomputable def aeL (K:Fg) (A:bN):SI:=⟨["thing", "least", "most"],[true,true,true],[true,true,true],[false,false,false],[("int",.bt "int"),("isinstance",.bf .isi),("bool",.bt "bool")],[true,true,true],true,false⟩
noncomputable def wI (K:Fg) (A:bN) (ex:aP->aY):bL :=
    (dB (c7 (pZ K A) ex (aA (aB 0) (aA (aV (.int 1)) (aA (aV (.int 1000000)) aC)))))
noncomputable def mV (K:Fg) (A:bN):kJ:=spD 1 1 fun EX=>wI K A (fun _=>EX)
noncomputable def acI:CB:=(.cons (.ret (.call 1 (.cons (.var 0) (.cons (.con (.int 1)) (.cons (.glo 0) .nil))))) .nil)
noncomputable def acJ (K:Fg) (A:bN):SI:=⟨["thing"],[true],[true],[false],[("MOST_AMOUNT",.con (.int 1000000)),("is_whole",.fn (pZ K A) 3 false)],[true,true],true,false⟩
noncomputable def qQ (K:Fg) (A:bN) (ex:aP->aY):bL :=
    (f9 (a4N (bJ (c7 (mV K A) ex (aA (aB 0) aC)))) (pU ex A.aZ (aA (aV (.str "a whole number from 1 to 10 ** 6 is wanted")) aC)) cM)
noncomputable def iY (K:Fg) (A:bN):kJ:=spD 1 1 fun EX=>qQ K A (fun _=>EX)
noncomputable def a7B:CB:=(.cons (.ifs (.not (.val (.call 0 (.cons (.var 0) .nil)))) (.cons (.raise 1 (.con (.str "a whole number from 1 to 10 ** 6 is wanted")) .nil) .nil) .nil) .nil)
noncomputable def a7C (K:Fg) (A:bN):SI:=⟨["thing"],[true],[true],[false],[("is_amount",.fn (mV K A) 1 false),("NoAmount",.cls A.aZ)],[true,true],true,false⟩
noncomputable def tH (K:Fg) (A:bN) (ex:aP->aY):bL :=
    (dB (gA (aA (aG cB (aB 0) (aV (.int 3))) (aA (aG cB (aB 0) (aV (.int 4))) (aA (aG cB (aB 0) (aV (.int 2))) (aA (aG cB (aG cB (aB 0) (aV (.int 0))) (aV (.int 0))) (aA (aG cB (aG cB (aB 0) (aV (.int 0))) (aV (.int 1))) (aA (aG cB (aB 0) (aV (.int 1))) aC))))))))
noncomputable def kY (K:Fg) (A:bN):kJ:=spD 1 1 fun EX=>tH K A (fun _=>EX)
noncomputable def aa9:CB:=(.cons (.ret (.tup (.cons (.ix (.var 0) (.con (.int 3))) (.cons (.ix (.var 0) (.con (.int 4))) (.cons (.ix (.var 0) (.con (.int 2))) (.cons (.ix (.ix (.var 0) (.con (.int 0))) (.con (.int 0))) (.cons (.ix (.ix (.var 0) (.con (.int 0))) (.con (.int 1))) (.cons (.ix (.var 0) (.con (.int 1))) .nil)))))))) .nil)
noncomputable def aaA (K:Fg) (A:bN):SI:=⟨["piece"],[true],[true],[false],[],[],true,false⟩
noncomputable def aeM (K:Fg) (A:bN) (ex:aP->aY):bL :=
    (dB (ai6 (bJ (tM3 "str" rJ (aB 0) (aA (aV (.str "-")) aC))) (a0B (aB 0) (a4P (aV (.int 1))) vO) (aB 0)))
noncomputable def xV (K:Fg) (A:bN):kJ:=spD 1 1 fun EX=>aeM K A (fun _=>EX)
noncomputable def azA:CB:=(.cons (.ret (.ifx (.val (.meth .starts (.var 0) (.cons (.con (.str "-")) .nil))) (.sl (.var 0) (.some (.con (.int 1))) .none) (.var 0))) .nil)
noncomputable def azB (K:Fg) (A:bN):SI:=⟨["word"],[true],[true],[false],[],[],true,false⟩
noncomputable def qR (K:Fg) (A:bN) (ex:aP->aY):bL :=
    (f9 (a9E (bJ (aG sO (aB 3) (aV (.tup [.str "due",.str "came",.str "amount",.str "aisle",.str "place",.str "lot"])))) (bJ (aG a74 (tM3 "list" xQ (aB 2) (aA (aB 3) aC)) (aV (.int 1))))) (pU ex A.cW (aA (aV (.str "due, came, amount, aisle, place, lot are the words, each once, with one blank between")) aC)) cM)
noncomputable def a0Q (K:Fg) (A:bN) (ex:aP->aY):bL :=
    (dB (aB 1))
noncomputable def a0R (K:Fg) (A:bN) (ex:aP->aY):bL :=
    aQ (lY (a9R (aB 2)) (oA 3) (qR K A ex)) (a0Q K A ex)
noncomputable def a0S (K:Fg) (A:bN) (ex:aP->aY):bL :=
    aQ (bB 2 (zE (vX (aB 1)) vY (c7 (xV K A) NoX (aA (aB 0) aC)))) (a0R K A ex)
noncomputable def a0T (K:Fg) (A:bN) (ex:aP->aY):bL :=
    aQ (bB 1 (tM3 "str" a3M (aB 0) (aA (aV (.str " ")) aC))) (a0S K A ex)
noncomputable def zM (K:Fg) (A:bN) (ex:aP->aY):bL :=
    aQ (f9 (a4N (bJ (gB (aN K) (aA (aB 0) (aA (aV (.ty "str")) aC))))) (pU ex A.cW (aA (aV (.str "a text is wanted")) aC)) cM) (a0T K A ex)
noncomputable def qC (K:Fg) (A:bN):kJ:=spD 4 1 fun EX=>zM K A (fun _=>EX)
noncomputable def aeN:CB:=(.cons (.ifs (.not (.val (.call 1 (.cons (.var 0) (.cons (.glo 0) .nil))))) (.cons (.raise 2 (.con (.str "a text is wanted")) .nil) .nil) .nil) (.cons (.set 1 (.meth .split (.var 0) (.cons (.con (.str " ")) .nil))) (.cons (.setC 2 [false,false,false,false] [false,false,false,true,false] (.any (.var 1)) .none (.call 3 (.cons (.var 0) .nil))) (.cons (.a5J (.any (.var 2)) (.nm 3) (.cons (.ifs (.or (.cons (.cmp .NotIn (.var 3) (.glo 4)) (.cons (.cmp .Gt (.meth .count (.var 2) (.cons (.var 3) .nil)) (.con (.int 1))) .nil))) (.cons (.raise 2 (.con (.str "due, came, amount, aisle, place, lot are the words, each once, with one blank between")) .nil) .nil) .nil) .nil)) (.cons (.ret (.var 1)) .nil)))))
noncomputable def aeO (K:Fg) (A:bN):SI:=⟨["text", "words", "names", "name"],[true,true,true,true],[true,true,true,true],[false,false,false,false],[("str",.bt "str"),("isinstance",.bf .isi),("NoRule",.cls A.cW),("bare",.fn (xV K A) 1 false),("WORDS",.con (.tup [.str "due",.str "came",.str "amount",.str "aisle",.str "place",.str "lot"]))],[true,true,true,false,true],true,false⟩
noncomputable def bU:a06:=aDR "rule_of" "parts" (inBody dO 1)
noncomputable def wJ (K:Fg) (A:bN) (ex:aP->aY):bL :=
    (dB (gB a0G (aA (afY 2 (vX (aB 0)) vY (ai6 (bJ (aB 1)) (afU (aG cB (aB 4) (aB 0))) (aG cB (aB 4) (aB 0)))) aC)))
noncomputable def mW (K:Fg) (A:bN) (ex:aP->aY):bL :=
    aQ (bB 2 (c7 (kY K A) ex (aA (aB 1) aC))) (wJ K A ex)
noncomputable def gJ (K:Fg) (A:bN):kJ:=spD 3 2 fun EX=>mW K A (fun _=>EX)
noncomputable def a0U:CB:=(.cons (.set 2 (.call 0 (.cons (.var 1) .nil))) (.cons (.ret (.call 1 (.cons (.agC 2 [false,false,true] [false,false] (.any (.fre 0)) .none (.ifx (.val (.var 1)) (.neg (.ix (.var 4) (.var 0))) (.ix (.var 4) (.var 0)))) .nil))) .nil))
noncomputable def a0V (K:Fg) (A:bN):SI:=⟨["parts", "piece", "numbers"],[false,true,true],[false,true,false],[true,false,true],[("numbers_of",.fn (kY K A) 1 false),("tuple",.bt "tuple")],[true,true],true,false⟩
noncomputable def xW (K:Fg) (A:bN) (ex:aP->aY):bL :=
    (bB 1 (zE (vX (c7 (qC K A) ex (aA (aB 0) aC))) vY (gA (aA (aqI  [.str "due",.str "came",.str "amount",.str "aisle",.str "place",.str "lot"] (c7 (xV K A) NoX (aA (aB 0) aC))) (aA (tM3 "str" rJ (aB 0) (aA (aV (.str "-")) aC)) aC)))))
noncomputable def tK (K:Fg) (A:bN):kJ:=atY 3 1 (fun EX=>xW K A (fun _=>EX)) A.eU bU (ac4 (inBody dO 1)) 1
noncomputable def a8T:CB:=(.cons (.setC 1 [false,false,false] [false,true,true] (.any (.call 0 (.cons (.var 0) .nil))) .none (.tup (.cons (.tix 1 (.call 2 (.cons (.var 0) .nil))) (.cons (.meth .starts (.var 0) (.cons (.con (.str "-")) .nil)) .nil)))) .nil)
noncomputable def a8U (K:Fg) (A:bN):SI:=⟨["text", "parts", "tuple_of"],[true,true,true],[true,false,true],[false,true,false],[("words_of",.fn (qC K A) 1 false),("WORDS",.con (.tup [.str "due",.str "came",.str "amount",.str "aisle",.str "place",.str "lot"])),("bare",.fn (xV K A) 1 false)],[true,false,false],true,false⟩
noncomputable def cN:yK:=lamOf "in_turn" "rule" a2A
noncomputable def kZ (K:Fg) (A:bN) (ex:aP->aY):cF :=
    (gA (aA (a9G 0 bU (gJ K A) (aA (aB 1) aC)) (aA (aG cB (aB 1) (aV (.int 0))) (aA (aG cB (aB 1) (aV (.int 1))) aC))))
noncomputable def iZ (K:Fg) (A:bN):kJ:=spL 2 2 (kZ K A (fun _=>fV fun _ _=>False))
noncomputable def yZ:CE:=(.tup (.cons (.callC 0 0 (.var 1) .nil) (.cons (.ix (.var 1) (.con (.int 0))) (.cons (.ix (.var 1) (.con (.int 1))) .nil))))
noncomputable def z6 (K:Fg) (A:bN):SI:=⟨["rule", "piece"],[false,true],[false,true],[true,false],[("-",.clo bU (gJ K A))],[false],true,false⟩
noncomputable def tL (K:Fg) (A:bN):kJ:=amD 2 2 A.dR cN 0 1 (iZ K A)
noncomputable def rR (K:Fg) (A:bN) (ex:aP->aY):bL :=
    (ag0 3 (ayC true) (aB 10))
noncomputable def z7 (K:Fg) (A:bN) (ex:aP->aY):bL :=
    (f9 (bJ (aG a74 (aB 10) (aV (.int 0)))) (aQ (nY (tM3 "list" gC (aB 4) (aA (gA (aA (aB 5) (aA (aB 6) (aA (aB 10) aC)))) aC))) (rR K A ex)) cM)
noncomputable def a2R (K:Fg) (A:bN) (ex:aP->aY):bL :=
    aQ (bB 10 (gB vZ (aA (aB 7) (aA (aB 3) aC)))) (z7 K A ex)
noncomputable def a5T (K:Fg) (A:bN) (ex:aP->aY):bL :=
    (dB (aB 4))
noncomputable def a5U (K:Fg) (A:bN) (ex:aP->aY):bL :=
    aQ (f9 (bJ (aG a74 (aB 3) (aV (.int 0)))) (pU ex A.aW (aA (aV (.str "all the pieces together are too few")) aC)) cM) (a5T K A ex)
noncomputable def a5V (K:Fg) (A:bN) (ex:aP->aY):bL :=
    aQ (lY (a9R (c7 (tL K A) ex (aA (aB 0) (aA (aB 1) aC)))) (a4Y [5,6,7,8,9]) (a2R K A ex)) (a5U K A ex)
noncomputable def a5W (K:Fg) (A:bN) (ex:aP->aY):bL :=
    aQ (bB 4 (lM aC)) (a5V K A ex)
noncomputable def a5X (K:Fg) (A:bN) (ex:aP->aY):bL :=
    aQ (bB 3 (aB 2)) (a5W K A ex)
noncomputable def a5Y (K:Fg) (A:bN) (ex:aP->aY):bL :=
    aQ (nY (c7 (iY K A) ex (aA (aB 2) aC))) (a5X K A ex)
noncomputable def xX (K:Fg) (A:bN):kJ:=spD 11 3 fun EX=>a5Y K A (fun _=>EX)
noncomputable def amU:CB:=(.cons (.expr (.call 0 (.cons (.var 2) .nil))) (.cons (.set 3 (.var 2)) (.cons (.set 4 (.lst .nil)) (.cons (.a5J (.any (.call 1 (.cons (.var 0) (.cons (.var 1) .nil)))) (.tup [5,6,7,8,9]) (.cons (.set 10 (.call 2 (.cons (.var 7) (.cons (.var 3) .nil)))) (.cons (.ifs (.cmp .Gt (.var 10) (.con (.int 0))) (.cons (.expr (.meth .append (.var 4) (.cons (.tup (.cons (.var 5) (.cons (.var 6) (.cons (.var 10) .nil)))) .nil))) (.cons (.aug 3 true (.var 10)) .nil)) .nil) .nil))) (.cons (.ifs (.cmp .Gt (.var 3) (.con (.int 0))) (.cons (.raise 3 (.con (.str "all the pieces together are too few")) .nil) .nil) .nil) (.cons (.ret (.var 4)) .nil))))))
noncomputable def amV (K:Fg) (A:bN):SI:=⟨["pieces", "rule", "amount", "wanted", "rows", "spot", "lot", "lies", "due", "came", "grains"],[true,true,true,true,true,true,true,true,true,true,true],[true,true,true,true,true,true,true,true,true,true,true],[false,false,false,false,false,false,false,false,false,false,false],[("need_amount",.fn (iY K A) 1 false),("in_turn",.fn (tL K A) 2 false),("min",.bf .min),("TooLittle",.cls A.aW)],[true,true,true,true],true,false⟩
noncomputable def rT (K:Fg) (A:bN) (ex:aP->aY):bL :=
    (dB (aG cL (aG dH (aG uQ (aB 2) (aB 2)) (aG uQ (aV (.int 48271)) (aB 1))) (aV (.int 2147483629))))
noncomputable def rW (K:Fg) (A:bN) (ex:aP->aY):bL :=
    aQ (bB 2 (aG cL (aG dH (aG uQ (aG cB (aB 0) (aG cL (aB 1) (gB yO (aA (aB 0) aC)))) (aV (.int 48271))) (aG uQ (aB 1) (aV (.int 104729)))) (aV (.int 2147483647)))) (rT K A ex)
noncomputable def rY (K:Fg) (A:bN) (ex:aP->aY):bL :=
    aQ (f9 (bJ (aG v8 (gB yO (aA (aB 0) aC)) (aV (.int 0)))) (dB (aV (.int 0))) cM) (rW K A ex)
noncomputable def oU (K:Fg) (A:bN) (ex:aP->aY):bL :=
    aQ (f9 (bJ (aG ai7 (aB 1) (gB yO (aA (aB 0) aC)))) (dB (aG cB (aB 0) (aB 1))) cM) (rY K A ex)
noncomputable def bF (K:Fg) (A:bN):kJ:=spD 3 2 fun EX=>oU K A (fun _=>EX)
noncomputable def a5Z:CB:=(.cons (.ifs (.cmp .Lt (.var 1) (.call 0 (.cons (.var 0) .nil))) (.cons (.ret (.ix (.var 0) (.var 1))) .nil) .nil) (.cons (.ifs (.cmp .Eq (.call 0 (.cons (.var 0) .nil)) (.con (.int 0))) (.cons (.ret (.con (.int 0))) .nil) .nil) (.cons (.set 2 (.bin .Mod (.bin .Add (.bin .Mult (.ix (.var 0) (.bin .Mod (.var 1) (.call 0 (.cons (.var 0) .nil)))) (.con (.int 48271))) (.bin .Mult (.var 1) (.con (.int 104729)))) (.con (.int 2147483647)))) (.cons (.ret (.bin .Mod (.bin .Add (.bin .Mult (.var 2) (.var 2)) (.bin .Mult (.con (.int 48271)) (.var 1))) (.con (.int 2147483629)))) .nil))))
noncomputable def a65 (K:Fg) (A:bN):SI:=⟨["_law_script", "_law_k", "_law_mixed"],[true,true,true],[true,true,true],[false,false,false],[("len",.bf .len)],[true],true,false⟩
noncomputable def fO (K:Fg) (A:bN) (ex:aP->aY):bL :=
    (dB (zB (gB (aN K) (aA (aB 0) (aA (aV (.ty "int")) aC))) (a4O (gB (aN K) (aA (aB 0) (aA (aV (.ty "bool")) aC))))))
noncomputable def lA (K:Fg) (A:bN):kJ:=spD 1 1 fun EX=>fO K A (fun _=>EX)
noncomputable def aaB:CB:=(.cons (.ret (.alW (.cons (.call 1 (.cons (.var 0) (.cons (.glo 0) .nil))) (.cons (.alV (.call 1 (.cons (.var 0) (.cons (.glo 2) .nil)))) .nil)))) .nil)
noncomputable def aaC (K:Fg) (A:bN):SI:=⟨["_law_found"],[true],[true],[false],[("int",.bt "int"),("isinstance",.bf .isi),("bool",.bt "bool")],[true,true,true],true,false⟩
noncomputable def jG (K:Fg) (A:bN) (ex:aP->aY):bL :=
    (bB 8 (aG cL (aG cZ (aB 1) (aV (.int 926640))) (aV (.int 1000))))
noncomputable def j4 (K:Fg) (A:bN) (ex:aP->aY):bL :=
    (nY (tM3 "list" gC (aB 3) (aA (gA (aA (aB 7) (aA (aB 8) (aA (aB 12) (aA (aB 10) (aA (aB 11) aC)))))) aC)))
noncomputable def dJ (K:Fg) (A:bN) (ex:aP->aY):bL :=
    (f9 (bJ (aG a1Y (gA (aA (aB 7) (aA (aB 8) aC))) (aB 4))) (aQ (a9Z (aB 4) (gA (aA (aB 7) (aA (aB 8) aC))) (aV (.bl true))) (j4 K A ex)) cM)
noncomputable def m9 (K:Fg) (A:bN) (ex:aP->aY):bL :=
    aQ (f9 (bJ (aG v8 (aG cL (aG cZ (aB 9) (aV (.int 540))) (aV (.int 5))) (aV (.int 1)))) (bB 12 (aG dH (aV (.int 1)) (aG cL (aG cZ (aB 9) (aV (.int 2700))) (aV (.int 1000000))))) cM) (dJ K A ex)
noncomputable def fX (K:Fg) (A:bN) (ex:aP->aY):bL :=
    aQ (bB 12 (aG dH (aV (.int 1)) (aG cL (aG cZ (aB 9) (aV (.int 90))) (aV (.int 6))))) (m9 K A ex)
noncomputable def gU (K:Fg) (A:bN) (ex:aP->aY):bL :=
    aQ (a9S [10,11] (alF abZ (aB 5) (aA (aB 8) (aA (gA (aA (aB 10) (aA (aB 11) aC))) aC)))) (fX K A ex)
noncomputable def gW (K:Fg) (A:bN) (ex:aP->aY):bL :=
    aQ (bB 11 (aG cL (aG cB (lM (aA (aG cL (aG cZ (aB 9) (aV (.int 5))) (aV (.int 3))) (aA (aG cZ (aB 9) (aV (.int 900000))) aC))) (gB abG (aA (aG v8 (aG cL (aG cZ (aB 9) (aV (.int 15))) (aV (.int 6))) (aV (.int 1))) aC))) (aG dH (aB 10) (aV (.int 1))))) (gU K A ex)
noncomputable def oV (K:Fg) (A:bN) (ex:aP->aY):bL :=
    aQ (f9 (bJ (aG v8 (aG cL (aG cZ (aB 9) (aV (.int 15))) (aV (.int 6))) (aV (.int 1)))) (bB 10 (aG cL (aG cZ (aB 9) (aV (.int 90))) (aV (.int 10000)))) cM) (gW K A ex)
noncomputable def oW (K:Fg) (A:bN) (ex:aP->aY):bL :=
    aQ (bB 10 (aG cL (aB 9) (aV (.int 5)))) (oV K A ex)
noncomputable def gY (K:Fg) (A:bN) (ex:aP->aY):bL :=
    aQ (bB 9 (c7 (bF K A) ex (aA (aB 0) (aA (aG dH (aV (.int 9)) (aG uQ (aV (.int 2)) (aB 6))) aC)))) (oW K A ex)
noncomputable def oX (K:Fg) (A:bN) (ex:aP->aY):bL :=
    aQ (f9 (bJ (aG v8 (aG cL (aG cZ (aB 1) (aV (.int 60))) (aV (.int 6))) (aV (.int 1)))) (aQ (bB 7 (gA (aA (aG cL (aG cZ (aB 1) (aV (.int 360))) (aV (.int 26))) (aA (aG dH (aV (.int 1)) (aG cL (aG cZ (aB 1) (aV (.int 9360))) (aV (.int 99)))) aC)))) (jG K A ex)) cM) (gY K A ex)
noncomputable def oY (K:Fg) (A:bN) (ex:aP->aY):bL :=
    aQ (bB 8 (aG cL (aG cZ (aB 1) (aV (.int 12))) (aV (.int 5)))) (oX K A ex)
noncomputable def oZ (K:Fg) (A:bN) (ex:aP->aY):bL :=
    aQ (bB 7 (gA (aA (aG cL (aB 1) (aV (.int 3))) (aA (aG dH (aV (.int 1)) (aG cL (aG cZ (aB 1) (aV (.int 3))) (aV (.int 4)))) aC)))) (oY K A ex)
noncomputable def jP (K:Fg) (A:bN) (ex:aP->aY):bL :=
    aQ (bB 1 (c7 (bF K A) ex (aA (aB 0) (aA (aG dH (aV (.int 8)) (aG uQ (aV (.int 2)) (aB 6))) aC)))) (oZ K A ex)
noncomputable def uR (K:Fg) (A:bN) (ex:aP->aY):bL :=
    (dB (aB 3))
noncomputable def uT (K:Fg) (A:bN) (ex:aP->aY):bL :=
    aQ (lY (sS (aA (aB 2) aC)) (oA 6) (jP K A ex)) (uR K A ex)
noncomputable def uU (K:Fg) (A:bN) (ex:aP->aY):bL :=
    aQ (bB 5 a9L) (uT K A ex)
noncomputable def uV (K:Fg) (A:bN) (ex:aP->aY):bL :=
    aQ (bB 4 a3H) (uU K A ex)
noncomputable def lZ (K:Fg) (A:bN) (ex:aP->aY):bL :=
    aQ (bB 3 (lM aC)) (uV K A ex)
noncomputable def uW (K:Fg) (A:bN) (ex:aP->aY):bL :=
    aQ (f9 (bJ (aG v8 (aG cL (aG cZ (aB 1) (aV (.int 9))) (aV (.int 8))) (aV (.int 1)))) (bB 2 (aG cL (aG cZ (aB 1) (aV (.int 72))) (aV (.int 41)))) cM) (lZ K A ex)
noncomputable def uX (K:Fg) (A:bN) (ex:aP->aY):bL :=
    aQ (bB 2 (aG cL (aB 1) (aV (.int 9)))) (uW K A ex)
noncomputable def qT (K:Fg) (A:bN) (ex:aP->aY):bL :=
    aQ (bB 1 (c7 (bF K A) ex (aA (aB 0) (aA (aV (.int 0)) aC)))) (uX K A ex)
noncomputable def j5 (K:Fg) (A:bN):kJ:=spD 13 1 fun EX=>qT K A (fun _=>EX)
noncomputable def a7D:CB:=(.cons (.set 1 (.call 0 (.cons (.var 0) (.cons (.con (.int 0)) .nil)))) (.cons (.set 2 (.bin .Mod (.var 1) (.con (.int 9)))) (.cons (.ifs (.cmp .Eq (.bin .Mod (.bin .FloorDiv (.var 1) (.con (.int 9))) (.con (.int 8))) (.con (.int 1))) (.cons (.set 2 (.bin .Mod (.bin .FloorDiv (.var 1) (.con (.int 72))) (.con (.int 41)))) .nil) .nil) (.cons (.set 3 (.lst .nil)) (.cons (.set 4 .aqO) (.cons (.set 5 .dct) (.cons (.a5J (.aa0 (.var 2)) (.nm 6) (.cons (.set 1 (.call 0 (.cons (.var 0) (.cons (.bin .Add (.con (.int 8)) (.bin .Mult (.con (.int 2)) (.var 6))) .nil)))) (.cons (.set 7 (.tup (.cons (.bin .Mod (.var 1) (.con (.int 3))) (.cons (.bin .Add (.con (.int 1)) (.bin .Mod (.bin .FloorDiv (.var 1) (.con (.int 3))) (.con (.int 4)))) .nil)))) (.cons (.set 8 (.bin .Mod (.bin .FloorDiv (.var 1) (.con (.int 12))) (.con (.int 5)))) (.cons (.ifs (.cmp .Eq (.bin .Mod (.bin .FloorDiv (.var 1) (.con (.int 60))) (.con (.int 6))) (.con (.int 1))) (.cons (.set 7 (.tup (.cons (.bin .Mod (.bin .FloorDiv (.var 1) (.con (.int 360))) (.con (.int 26))) (.cons (.bin .Add (.con (.int 1)) (.bin .Mod (.bin .FloorDiv (.var 1) (.con (.int 9360))) (.con (.int 99)))) .nil)))) (.cons (.set 8 (.bin .Mod (.bin .FloorDiv (.var 1) (.con (.int 926640))) (.con (.int 1000)))) .nil)) .nil) (.cons (.set 9 (.call 0 (.cons (.var 0) (.cons (.bin .Add (.con (.int 9)) (.bin .Mult (.con (.int 2)) (.var 6))) .nil)))) (.cons (.set 10 (.bin .Mod (.var 9) (.con (.int 5)))) (.cons (.ifs (.cmp .Eq (.bin .Mod (.bin .FloorDiv (.var 9) (.con (.int 15))) (.con (.int 6))) (.con (.int 1))) (.cons (.set 10 (.bin .Mod (.bin .FloorDiv (.var 9) (.con (.int 90))) (.con (.int 10000)))) .nil) .nil) (.cons (.set 11 (.bin .Mod (.ix (.lst (.cons (.bin .Mod (.bin .FloorDiv (.var 9) (.con (.int 5))) (.con (.int 3))) (.cons (.bin .FloorDiv (.var 9) (.con (.int 900000))) .nil))) (.call 2 (.cons (.cmp .Eq (.bin .Mod (.bin .FloorDiv (.var 9) (.con (.int 15))) (.con (.int 6))) (.con (.int 1))) .nil))) (.bin .Add (.var 10) (.con (.int 1))))) (.cons (.aqW [10,11] (.dm .sdk (.var 5) (.var 8) (.cons (.tup (.cons (.var 10) (.cons (.var 11) .nil))) .nil))) (.cons (.set 12 (.bin .Add (.con (.int 1)) (.bin .Mod (.bin .FloorDiv (.var 9) (.con (.int 90))) (.con (.int 6))))) (.cons (.ifs (.cmp .Eq (.bin .Mod (.bin .FloorDiv (.var 9) (.con (.int 540))) (.con (.int 5))) (.con (.int 1))) (.cons (.set 12 (.bin .Add (.con (.int 1)) (.bin .Mod (.bin .FloorDiv (.var 9) (.con (.int 2700))) (.con (.int 1000000))))) .nil) .nil) (.cons (.ifs (.din true (.tup (.cons (.var 7) (.cons (.var 8) .nil))) (.var 4)) (.cons (.aqY (.var 4) (.tup (.cons (.var 7) (.cons (.var 8) .nil))) (.con (.bl true))) (.cons (.expr (.meth .append (.var 3) (.cons (.tup (.cons (.var 7) (.cons (.var 8) (.cons (.var 12) (.cons (.var 10) (.cons (.var 11) .nil)))))) .nil))) .nil)) .nil) .nil))))))))))))) (.cons (.ret (.var 3)) .nil))))))))
noncomputable def a7E (K:Fg) (A:bN):SI:=⟨["_law_script", "_law_cell", "_law_many", "_law_found", "_law_known", "_law_days", "_law_k", "_law_spot", "_law_lot", "_law_other", "_law_due_here", "_law_came", "_law_grains"],[true,true,true,true,true,true,true,true,true,true,true,true,true],[true,true,true,true,true,true,true,true,true,true,true,true,true],[false,false,false,false,false,false,false,false,false,false,false,false,false],[("_law_cell_at",.fn (bF K A) 2 false),("range",.bt "range"),("int",.bt "int")],[true,true,true],true,false⟩
noncomputable def qD (K:Fg) (A:bN) (ex:aP->aY):bL :=
    (nY (tM3 "list" gC (aB 3) (aA (aG dH (aG cB (lM (aA (aV (.str "")) (aA (aV (.str "-")) aC))) (aG cL (aB 2) (aV (.int 2)))) (tM3 "list" a1Z (aB 1) (aA (aG cL (aG cZ (aB 2) (aV (.int 2))) (gB yO (aA (aB 1) aC))) aC))) aC)))
noncomputable def m7 (K:Fg) (A:bN) (ex:aP->aY):bL :=
    aQ (bB 2 (c7 (bF K A) ex (aA (aB 0) (aA (aG dH (aV (.int 2)) (aB 4)) aC)))) (qD K A ex)
noncomputable def wK (K:Fg) (A:bN) (ex:aP->aY):bL :=
    (dB (aB 3))
noncomputable def wL (K:Fg) (A:bN) (ex:aP->aY):bL :=
    aQ (lY (sS (aA (aG dH (aV (.int 1)) (aG cL (aB 2) (aV (.int 6)))) aC)) (oA 4) (m7 K A ex)) (wK K A ex)
noncomputable def wM (K:Fg) (A:bN) (ex:aP->aY):bL :=
    aQ (bB 3 (lM aC)) (wL K A ex)
noncomputable def wN (K:Fg) (A:bN) (ex:aP->aY):bL :=
    aQ (bB 2 (c7 (bF K A) ex (aA (aB 0) (aA (aV (.int 1)) aC)))) (wM K A ex)
noncomputable def tM (K:Fg) (A:bN) (ex:aP->aY):bL :=
    aQ (bB 1 (lM (aA (aV (.str "due")) (aA (aV (.str "came")) (aA (aV (.str "amount")) (aA (aV (.str "aisle")) (aA (aV (.str "place")) (aA (aV (.str "lot")) aC)))))))) (wN K A ex)
noncomputable def lB (K:Fg) (A:bN):kJ:=spD 5 1 fun EX=>tM K A (fun _=>EX)
noncomputable def aaD:CB:=(.cons (.set 1 (.lst (.cons (.con (.str "due")) (.cons (.con (.str "came")) (.cons (.con (.str "amount")) (.cons (.con (.str "aisle")) (.cons (.con (.str "place")) (.cons (.con (.str "lot")) .nil)))))))) (.cons (.set 2 (.call 0 (.cons (.var 0) (.cons (.con (.int 1)) .nil)))) (.cons (.set 3 (.lst .nil)) (.cons (.a5J (.aa0 (.bin .Add (.con (.int 1)) (.bin .Mod (.var 2) (.con (.int 6))))) (.nm 4) (.cons (.set 2 (.call 0 (.cons (.var 0) (.cons (.bin .Add (.con (.int 2)) (.var 4)) .nil)))) (.cons (.expr (.meth .append (.var 3) (.cons (.bin .Add (.ix (.lst (.cons (.con (.str "")) (.cons (.con (.str "-")) .nil))) (.bin .Mod (.var 2) (.con (.int 2)))) (.meth .aiK (.var 1) (.cons (.bin .Mod (.bin .FloorDiv (.var 2) (.con (.int 2))) (.call 2 (.cons (.var 1) .nil))) .nil))) .nil))) .nil))) (.cons (.ret (.var 3)) .nil)))))
noncomputable def aaE (K:Fg) (A:bN):SI:=⟨["_law_script", "_law_left", "_law_cell", "_law_words_here", "_law_k"],[true,true,true,true,true],[true,true,true,true,true],[false,false,false,false,false],[("_law_cell_at",.fn (bF K A) 2 false),("range",.bt "range"),("len",.bf .len)],[true,true,true],true,false⟩
noncomputable def fY (K:Fg) (A:bN) (ex:aP->aY):bL :=
    (nY (tM3 "list" gC (aB 2) (aA (aB 6) aC)))
noncomputable def mD (K:Fg) (A:bN) (ex:aP->aY):bL :=
    aQ (f9 (bJ (aG v8 (a0B (aB 3) vO (a4P (aV (.int 1)))) (aV (.str "-")))) (bB 6 (aG yN (aV (.int 0)) (aB 6))) cM) (fY K A ex)
noncomputable def mF (K:Fg) (A:bN) (ex:aP->aY):bL :=
    aQ (bB 6 (a3K (aB 5) (aB 4) (aG cB (aB 0) (aV (.int 1))))) (mD K A ex)
noncomputable def mH (K:Fg) (A:bN) (ex:aP->aY):bL :=
    aQ (bB 5 (a9Y ["due", "came", "amount", "aisle", "place"] (aA (aG cB (aB 0) (aV (.int 3))) (aA (aG cB (aB 0) (aV (.int 4))) (aA (aG cB (aB 0) (aV (.int 2))) (aA (aG cB (aG cB (aB 0) (aV (.int 0))) (aV (.int 0))) (aA (aG cB (aG cB (aB 0) (aV (.int 0))) (aV (.int 1))) aC))))))) (mF K A ex)
noncomputable def qF (K:Fg) (A:bN) (ex:aP->aY):bL :=
    aQ (bB 4 (tM3 "str" rK (aB 3) (aA (aV (.str "-")) (aA (aV (.str "")) aC)))) (mH K A ex)
noncomputable def jQ (K:Fg) (A:bN) (ex:aP->aY):bL :=
    (dB (aB 2))
noncomputable def rZ (K:Fg) (A:bN) (ex:aP->aY):bL :=
    aQ (lY (a9R (aB 1)) (oA 3) (qF K A ex)) (jQ K A ex)
noncomputable def p7 (K:Fg) (A:bN) (ex:aP->aY):bL :=
    aQ (bB 2 (lM aC)) (rZ K A ex)
noncomputable def eO (K:Fg) (A:bN):kJ:=spD 7 2 fun EX=>p7 K A (fun _=>EX)
noncomputable def a66:CB:=(.cons (.set 2 (.lst .nil)) (.cons (.a5J (.any (.var 1)) (.nm 3) (.cons (.set 4 (.repl (.var 3) "-" "")) (.cons (.set 5 (.agB ["due", "came", "amount", "aisle", "place"] (.cons (.ix (.var 0) (.con (.int 3))) (.cons (.ix (.var 0) (.con (.int 4))) (.cons (.ix (.var 0) (.con (.int 2))) (.cons (.ix (.ix (.var 0) (.con (.int 0))) (.con (.int 0))) (.cons (.ix (.ix (.var 0) (.con (.int 0))) (.con (.int 1))) .nil))))))) (.cons (.set 6 (.dgt (.var 5) (.var 4) (.ix (.var 0) (.con (.int 1))))) (.cons (.ifs (.cmp .Eq (.sl (.var 3) .none (.some (.con (.int 1)))) (.con (.str "-"))) (.cons (.set 6 (.bin .Sub (.con (.int 0)) (.var 6))) .nil) .nil) (.cons (.expr (.meth .append (.var 2) (.cons (.var 6) .nil))) .nil)))))) (.cons (.ret (.var 2)) .nil)))
noncomputable def a67 (K:Fg) (A:bN):SI:=⟨["_law_piece", "_law_words_here", "_law_found", "_law_word", "_law_name", "_law_told_here", "_law_number"],[true,true,true,true,true,true,true],[true,true,true,true,true,true,true],[false,false,false,false,false,false,false],[],[],true,true⟩
noncomputable def uY (K:Fg) (A:bN) (ex:aP->aY):bL :=
    (f9 (bJ (aG a9I (aG cB (aB 3) (aB 5)) (aG cB (aB 4) (aB 5)))) (dB (aG ai7 (aG cB (aB 3) (aB 5)) (aG cB (aB 4) (aB 5)))) cM)
noncomputable def wO (K:Fg) (A:bN) (ex:aP->aY):bL :=
    (dB (aV (.bl false)))
noncomputable def wQ (K:Fg) (A:bN) (ex:aP->aY):bL :=
    aQ (lY (sS (aA (gB yO (aA (aB 3) aC)) aC)) (oA 5) (uY K A ex)) (wO K A ex)
noncomputable def wR (K:Fg) (A:bN) (ex:aP->aY):bL :=
    aQ (bB 4 (aG dH (c7 (eO K A) ex (aA (aB 1) (aA (aB 2) aC))) (lM (aA (aG cB (aG cB (aB 1) (aV (.int 0))) (aV (.int 0))) (aA (aG cB (aG cB (aB 1) (aV (.int 0))) (aV (.int 1))) (aA (aG cB (aB 1) (aV (.int 1))) aC)))))) (wQ K A ex)
noncomputable def tO (K:Fg) (A:bN) (ex:aP->aY):bL :=
    aQ (bB 3 (aG dH (c7 (eO K A) ex (aA (aB 0) (aA (aB 2) aC))) (lM (aA (aG cB (aG cB (aB 0) (aV (.int 0))) (aV (.int 0))) (aA (aG cB (aG cB (aB 0) (aV (.int 0))) (aV (.int 1))) (aA (aG cB (aB 0) (aV (.int 1))) aC)))))) (wR K A ex)
noncomputable def lC (K:Fg) (A:bN):kJ:=spD 6 3 fun EX=>tO K A (fun _=>EX)
noncomputable def aaF:CB:=(.cons (.set 3 (.bin .Add (.call 0 (.cons (.var 0) (.cons (.var 2) .nil))) (.lst (.cons (.ix (.ix (.var 0) (.con (.int 0))) (.con (.int 0))) (.cons (.ix (.ix (.var 0) (.con (.int 0))) (.con (.int 1))) (.cons (.ix (.var 0) (.con (.int 1))) .nil)))))) (.cons (.set 4 (.bin .Add (.call 0 (.cons (.var 1) (.cons (.var 2) .nil))) (.lst (.cons (.ix (.ix (.var 1) (.con (.int 0))) (.con (.int 0))) (.cons (.ix (.ix (.var 1) (.con (.int 0))) (.con (.int 1))) (.cons (.ix (.var 1) (.con (.int 1))) .nil)))))) (.cons (.a5J (.aa0 (.call 2 (.cons (.var 3) .nil))) (.nm 5) (.cons (.ifs (.cmp .NotEq (.ix (.var 3) (.var 5)) (.ix (.var 4) (.var 5))) (.cons (.ret (.cmp .Lt (.ix (.var 3) (.var 5)) (.ix (.var 4) (.var 5)))) .nil) .nil) .nil)) (.cons (.ret (.con (.bl false))) .nil))))
noncomputable def aaG (K:Fg) (A:bN):SI:=⟨["_law_one", "_law_other", "_law_words_here", "_law_first", "_law_second", "_law_k"],[true,true,true,true,true,true],[true,true,true,true,true,true],[false,false,false,false,false,false],[("_law_numbers",.fn (eO K A) 2 false),("range",.bt "range"),("len",.bf .len)],[true,true,true],true,false⟩
noncomputable def mJ (K:Fg) (A:bN) (ex:aP->aY):bL :=
    (bB 4 (aG yN (aB 4) (aV (.int 1))))
noncomputable def gZ (K:Fg) (A:bN) (ex:aP->aY):bL :=
    (nY (tM3 "list" rM (aB 2) (aA (aB 4) (aA (aB 3) aC))))
noncomputable def p8 (K:Fg) (A:bN) (ex:aP->aY):bL :=
    aQ (a3I (ab6 (bJ (aG a74 (aB 4) (aV (.int 0)))) (bJ (c7 (lC K A) ex (aA (aB 3) (aA (aG cB (aB 2) (aG yN (aB 4) (aV (.int 1)))) (aA (aB 1) aC)))))) (mJ K A ex)) (gZ K A ex)
noncomputable def jR (K:Fg) (A:bN) (ex:aP->aY):bL :=
    aQ (bB 4 (gB yO (aA (aB 2) aC))) (p8 K A ex)
noncomputable def uZ (K:Fg) (A:bN) (ex:aP->aY):bL :=
    (dB (aB 2))
noncomputable def v7 (K:Fg) (A:bN) (ex:aP->aY):bL :=
    aQ (lY (a9R (aB 0)) (oA 3) (jR K A ex)) (uZ K A ex)
noncomputable def qU (K:Fg) (A:bN) (ex:aP->aY):bL :=
    aQ (bB 2 (lM aC)) (v7 K A ex)
noncomputable def j6 (K:Fg) (A:bN):kJ:=spD 5 2 fun EX=>qU K A (fun _=>EX)
noncomputable def a7F:CB:=(.cons (.set 2 (.lst .nil)) (.cons (.a5J (.any (.var 0)) (.nm 3) (.cons (.set 4 (.call 0 (.cons (.var 2) .nil))) (.cons (.aqX (.and (.cons (.cmp .Gt (.var 4) (.con (.int 0))) (.cons (.val (.call 1 (.cons (.var 3) (.cons (.ix (.var 2) (.bin .Sub (.var 4) (.con (.int 1)))) (.cons (.var 1) .nil))))) .nil))) (.cons (.set 4 (.bin .Sub (.var 4) (.con (.int 1)))) .nil)) (.cons (.expr (.meth .insert (.var 2) (.cons (.var 4) (.cons (.var 3) .nil)))) .nil)))) (.cons (.ret (.var 2)) .nil)))
noncomputable def a7G (K:Fg) (A:bN):SI:=⟨["_law_pieces_here", "_law_words_here", "_law_found", "_law_piece", "_law_at"],[true,true,true,true,true],[true,true,true,true,true],[false,false,false,false,false],[("len",.bf .len),("_law_ahead",.fn (lC K A) 3 false)],[true,true],true,false⟩
noncomputable def sE (K:Fg) (A:bN) (ex:aP->aY):bL :=
    (bB 4 (aG yN (aB 4) (gB vZ (aA (aB 4) (aA (aG cB (aB 5) (aV (.int 2))) aC)))))
noncomputable def z8 (K:Fg) (A:bN) (ex:aP->aY):bL :=
    (f9 (bJ (aG a74 (aB 4) (aV (.int 0)))) (aQ (nY (tM3 "list" gC (aB 3) (aA (gA (aA (aG cB (aB 5) (aV (.int 0))) (aA (aG cB (aB 5) (aV (.int 1))) (aA (gB vZ (aA (aB 4) (aA (aG cB (aB 5) (aV (.int 2))) aC))) aC)))) aC))) (sE K A ex)) cM)
noncomputable def a0W (K:Fg) (A:bN) (ex:aP->aY):bL :=
    (dB (aB 3))
noncomputable def a0X (K:Fg) (A:bN) (ex:aP->aY):bL :=
    aQ (f9 (bJ (aG a74 (aB 4) (aV (.int 0)))) (dB (gA (aA (aV (.str "refused")) (aA (aV (.str "TooLittle")) aC)))) cM) (a0W K A ex)
noncomputable def a0Y (K:Fg) (A:bN) (ex:aP->aY):bL :=
    aQ (lY (a9R (c7 (j6 K A) ex (aA (aB 0) (aA (aB 1) aC)))) (oA 5) (z8 K A ex)) (a0X K A ex)
noncomputable def a0Z (K:Fg) (A:bN) (ex:aP->aY):bL :=
    aQ (bB 4 (aB 2)) (a0Y K A ex)
noncomputable def tQ (K:Fg) (A:bN) (ex:aP->aY):bL :=
    aQ (bB 3 (lM aC)) (a0Z K A ex)
noncomputable def zN (K:Fg) (A:bN) (ex:aP->aY):bL :=
    aQ (f9 (a9E (a4N (bJ (c7 (lA K A) ex (aA (aB 2) aC)))) (a9E (bJ (aG ai7 (aB 2) (aV (.int 1)))) (bJ (aG a74 (aB 2) (aV (.int 1000000)))))) (dB (gA (aA (aV (.str "refused")) (aA (aV (.str "NoAmount")) aC)))) cM) (tQ K A ex)
noncomputable def lU (K:Fg) (A:bN):kJ:=spD 6 3 fun EX=>zN K A (fun _=>EX)
noncomputable def aeP:CB:=(.cons (.ifs (.or (.cons (.not (.val (.call 0 (.cons (.var 2) .nil)))) (.cons (.cmp .Lt (.var 2) (.con (.int 1))) (.cons (.cmp .Gt (.var 2) (.con (.int 1000000))) .nil)))) (.cons (.ret (.tup (.cons (.con (.str "refused")) (.cons (.con (.str "NoAmount")) .nil)))) .nil) .nil) (.cons (.set 3 (.lst .nil)) (.cons (.set 4 (.var 2)) (.cons (.a5J (.any (.call 1 (.cons (.var 0) (.cons (.var 1) .nil)))) (.nm 5) (.cons (.ifs (.cmp .Gt (.var 4) (.con (.int 0))) (.cons (.expr (.meth .append (.var 3) (.cons (.tup (.cons (.ix (.var 5) (.con (.int 0))) (.cons (.ix (.var 5) (.con (.int 1))) (.cons (.call 2 (.cons (.var 4) (.cons (.ix (.var 5) (.con (.int 2))) .nil))) .nil)))) .nil))) (.cons (.set 4 (.bin .Sub (.var 4) (.call 2 (.cons (.var 4) (.cons (.ix (.var 5) (.con (.int 2))) .nil))))) .nil)) .nil) .nil)) (.cons (.ifs (.cmp .Gt (.var 4) (.con (.int 0))) (.cons (.ret (.tup (.cons (.con (.str "refused")) (.cons (.con (.str "TooLittle")) .nil)))) .nil) .nil) (.cons (.ret (.var 3)) .nil))))))
noncomputable def aeQ (K:Fg) (A:bN):SI:=⟨["_law_pieces_here", "_law_words_here", "_law_wanted", "_law_rows", "_law_left", "_law_piece"],[true,true,true,true,true,true],[true,true,true,true,true,true],[false,false,false,false,false,false],[("_law_whole",.fn (lA K A) 1 false),("_law_turned",.fn (j6 K A) 2 false),("min",.bf .min)],[true,true,true],true,false⟩
noncomputable def pA (K:Fg) (A:bN) (ex:aP->aY):bL :=
    (dB (gA (aA (aV (.str "refused")) (aA (aG cB (lM (aA (aV (.str "TooLittle")) (aA (aV (.str "NoAmount")) aC))) (gB abG (aA (gB (aN K) (aA (aB 3) (aA (aV (.ref A.aZ)) aC))) aC))) aC))))
noncomputable def pB (K:Fg) (A:bN) (ex:aP->aY):bL :=
    aQ (f9 (bJ (aG v8 (gB (aN K) (aA (aB 3) (aA (aV (.ref A.aZ)) aC))) (gB (aN K) (aA (aB 3) (aA (aV (.ref A.aW)) aC))))) (dB (gA (aA (aV (.str "refused")) (aA (aV (.str "both")) aC)))) cM) (pA K A NoX)
noncomputable def wU (K:Fg) (A:bN) (ex:aP->aY):bL :=
    (abC K A.cU 3 (fun EX2=>(dB (c7 (xX K A) EX2 (aA (aB 0) (aA (c7 (tK K A) EX2 (aA (tM3 "str" a4Z (aV (.str " ")) (aA (aB 1) aC)) aC)) (aA (aB 2) aC)))))) (aQ (f9 (a9E (bJ (gB (aN K) (aA (aB 3) (aA (aV (.ref A.cW)) aC)))) (a4N (bJ (gB (aN K) (aA (aB 3) (aA (aV (.ty "ValueError")) aC)))))) (dB (gA (aA (aV (.str "refused")) (aA (aV (.str "more")) aC)))) cM) (pB K A NoX)))
noncomputable def j7 (K:Fg) (A:bN):kJ:=spD 4 3 fun EX=>wU K A (fun _=>EX)
noncomputable def acK:CB:=(.cons (.aqV 0 3 (.cons (.ret (.call 2 (.cons (.var 0) (.cons (.call 1 (.cons (.meth .join (.con (.str " ")) (.cons (.var 1) .nil)) .nil)) (.cons (.var 2) .nil))))) .nil) (.cons (.ifs (.or (.cons (.val (.call 4 (.cons (.var 3) (.cons (.glo 3) .nil)))) (.cons (.not (.val (.call 4 (.cons (.var 3) (.cons (.glo 5) .nil))))) .nil))) (.cons (.ret (.tup (.cons (.con (.str "refused")) (.cons (.con (.str "more")) .nil)))) .nil) .nil) (.cons (.ifs (.cmp .Eq (.call 4 (.cons (.var 3) (.cons (.glo 6) .nil))) (.call 4 (.cons (.var 3) (.cons (.glo 7) .nil)))) (.cons (.ret (.tup (.cons (.con (.str "refused")) (.cons (.con (.str "both")) .nil)))) .nil) .nil) (.cons (.ret (.tup (.cons (.con (.str "refused")) (.cons (.ix (.lst (.cons (.con (.str "TooLittle")) (.cons (.con (.str "NoAmount")) .nil))) (.call 8 (.cons (.call 4 (.cons (.var 3) (.cons (.glo 6) .nil))) .nil))) .nil)))) .nil)))) .nil)
noncomputable def acL (K:Fg) (A:bN):SI:=⟨["_law_pieces_here", "_law_words_here", "_law_wanted", "error"],[true,true,true,true],[true,true,true,true],[false,false,false,false],[("DepotError",.cls A.cU),("rule_of",.fn (tK K A) 1 false),("picked",.fn (xX K A) 3 false),("NoRule",.cls A.cW),("isinstance",.bf .isi),("ValueError",.bt "ValueError"),("NoAmount",.cls A.aZ),("TooLittle",.cls A.aW),("int",.bt "int")],[true,true,true,true,true,true,true,true,true],true,false⟩
noncomputable def a68 (K:Fg) (A:bN) (ex:aP->aY):bL :=
    (bB 6 (aG cB (lM (aA (aV (.int 0)) (aA (aV (.int 1000001)) (aA (aV (.bl true)) (aA (aV (.str "1")) (aA (aV .non) (aA (aG yN (aV (.int 0)) (aV (.int 1))) (aA (aG yN (aG yN (aV (.int 0)) (aV (.int 1))) (aB 7)) (aA (aG dH (aV (.int 1000002)) (aB 7)) aC))))))))) (aG cL (aB 4) (aV (.int 8)))))
noncomputable def acM (K:Fg) (A:bN) (ex:aP->aY):bL :=
    (dB (aG v8 (aB 12) (c7 (lU K A) ex (aA (aB 8) (aA (aB 2) (aA (aV (.int 1000000)) aC))))))
noncomputable def acN (K:Fg) (A:bN) (ex:aP->aY):bL :=
    aQ (bB 12 (c7 (j7 K A) ex (aA (aB 8) (aA (aB 2) (aA (aV (.int 1000000)) aC))))) (acM K A ex)
noncomputable def acO (K:Fg) (A:bN) (ex:aP->aY):bL :=
    aQ (nY (tM3 "list" gC (aB 8) (aA (gA (aA (gA (aA (aV (.int 25)) (aA (aV (.int 99)) aC))) (aA (aB 11) (aA (aV (.int 1000000)) (aA (aV (.int 0)) (aA (aV (.int 0)) aC)))))) aC))) (acN K A ex)
noncomputable def acP (K:Fg) (A:bN) (ex:aP->aY):bL :=
    aQ (bB 11 (gB vZ (aA (zE (sS (aA (aV (.int 100)) aC)) (bJ (aG sO (aB 0) (aB 11))) (aB 0)) aC))) (acO K A ex)
noncomputable def acQ (K:Fg) (A:bN) (ex:aP->aY):bL :=
    aQ (bB 10 (zE (vX (aB 1)) vY (aG cB (aB 0) (aV (.int 1))))) (acP K A ex)
noncomputable def acR (K:Fg) (A:bN) (ex:aP->aY):bL :=
    aQ (f9 (a9E (bJ (aG a9I (aB 8) (aB 1))) (bJ (aG a9I (aB 9) (c7 (lU K A) ex (aA (aB 1) (aA (aB 2) (aA (aB 6) aC))))))) (dB (aV (.bl false))) cM) (acQ K A ex)
noncomputable def agT (K:Fg) (A:bN) (ex:aP->aY):bL :=
    aQ (bB 9 (c7 (j7 K A) ex (aA (aB 8) (aA (aB 2) (aA (aB 6) aC))))) (acR K A ex)
noncomputable def aaH (K:Fg) (A:bN) (ex:aP->aY):bL :=
    aQ (bB 8 (gB a4S (aA (aB 1) aC))) (agT K A ex)
noncomputable def agU (K:Fg) (A:bN) (ex:aP->aY):bL :=
    aQ (f9 (bJ (aG v8 (aB 5) (aV (.int 5)))) (aQ (bB 7 (aG cL (aG uQ (aG cZ (aB 4) (aV (.int 8))) (aV (.int 48271))) (aV (.int 1000000007)))) (a68 K A ex)) cM) (aaH K A ex)
noncomputable def agV (K:Fg) (A:bN) (ex:aP->aY):bL :=
    aQ (bB 6 (aG cB (lM (aA (aG dH (aV (.int 1)) (aG cL (aB 4) (aG dH (aB 3) (aV (.int 2))))) (aA (gB a9T (aA (aV (.int 1)) (aA (aB 3) aC))) (aA (aV (.int 1)) (aA (aG dH (aV (.int 1)) (aG cL (aB 4) (aV (.int 1000000)))) (aA (aG dH (aB 3) (aV (.int 1))) (aA (aG dH (aV (.int 1)) (aG cL (aB 4) (aG dH (aB 3) (aV (.int 2))))) aC))))))) (aB 5))) (agU K A ex)
noncomputable def agW (K:Fg) (A:bN) (ex:aP->aY):bL :=
    aQ (bB 5 (aG cL (c7 (bF K A) ex (aA (aB 0) (aA (aV (.int 4)) aC))) (aV (.int 6)))) (agV K A ex)
noncomputable def agX (K:Fg) (A:bN) (ex:aP->aY):bL :=
    aQ (bB 4 (c7 (bF K A) ex (aA (aB 0) (aA (aV (.int 3)) aC)))) (agW K A ex)
noncomputable def agY (K:Fg) (A:bN) (ex:aP->aY):bL :=
    aQ (bB 3 (gB ag1 (aA (zE (vX (aB 1)) vY (aG cB (aB 0) (aV (.int 2)))) aC))) (agX K A ex)
noncomputable def agZ (K:Fg) (A:bN) (ex:aP->aY):bL :=
    aQ (bB 2 (c7 (lB K A) ex (aA (aB 0) aC))) (agY K A ex)
noncomputable def amW (K:Fg) (A:bN) (ex:aP->aY):bL :=
    aQ (bB 1 (c7 (j5 K A) ex (aA (aB 0) aC))) (agZ K A ex)
noncomputable def aeR (K:Fg) (A:bN):kJ:=spD 13 1 fun EX=>amW K A (fun _=>EX)
noncomputable def acS:CB:=(.cons (.set 1 (.call 0 (.cons (.var 0) .nil))) (.cons (.set 2 (.call 1 (.cons (.var 0) .nil))) (.cons (.set 3 (.call 2 (.cons (.comp [false,false,false,false,false,false,false,false,false,false,false,false,false] [false,false,false,false,false,false,false,false,false,false] (.any (.var 1)) .none (.ix (.var 0) (.con (.int 2)))) .nil))) (.cons (.set 4 (.call 3 (.cons (.var 0) (.cons (.con (.int 3)) .nil)))) (.cons (.set 5 (.bin .Mod (.call 3 (.cons (.var 0) (.cons (.con (.int 4)) .nil))) (.con (.int 6)))) (.cons (.set 6 (.ix (.lst (.cons (.bin .Add (.con (.int 1)) (.bin .Mod (.var 4) (.bin .Add (.var 3) (.con (.int 2))))) (.cons (.call 4 (.cons (.con (.int 1)) (.cons (.var 3) .nil))) (.cons (.con (.int 1)) (.cons (.bin .Add (.con (.int 1)) (.bin .Mod (.var 4) (.con (.int 1000000)))) (.cons (.bin .Add (.var 3) (.con (.int 1))) (.cons (.bin .Add (.con (.int 1)) (.bin .Mod (.var 4) (.bin .Add (.var 3) (.con (.int 2))))) .nil))))))) (.var 5))) (.cons (.ifs (.cmp .Eq (.var 5) (.con (.int 5))) (.cons (.set 7 (.bin .Mod (.bin .Mult (.bin .FloorDiv (.var 4) (.con (.int 8))) (.con (.int 48271))) (.con (.int 1000000007)))) (.cons (.set 6 (.ix (.lst (.cons (.con (.int 0)) (.cons (.con (.int 1000001)) (.cons (.con (.bl true)) (.cons (.con (.str "1")) (.cons (.con .non) (.cons (.bin .Sub (.con (.int 0)) (.con (.int 1))) (.cons (.bin .Sub (.bin .Sub (.con (.int 0)) (.con (.int 1))) (.var 7)) (.cons (.bin .Add (.con (.int 1000002)) (.var 7)) .nil))))))))) (.bin .Mod (.var 4) (.con (.int 8))))) .nil)) .nil) (.cons (.set 8 (.call 5 (.cons (.var 1) .nil))) (.cons (.set 9 (.call 6 (.cons (.var 8) (.cons (.var 2) (.cons (.var 6) .nil))))) (.cons (.ifs (.or (.cons (.cmp .NotEq (.var 8) (.var 1)) (.cons (.cmp .NotEq (.var 9) (.call 7 (.cons (.var 1) (.cons (.var 2) (.cons (.var 6) .nil))))) .nil))) (.cons (.ret (.con (.bl false))) .nil) .nil) (.cons (.setC 10 [false,false,false,false,false,false,false,false,false,false,false,false,false] [false,false,false,false,false,false,false,false,false,false] (.any (.var 1)) .none (.ix (.var 0) (.con (.int 1)))) (.cons (.set 11 (.call 9 (.cons (.comp [false,false,false,false,false,false,false,false,false,false,true,false,false] [false,false,false,false,false,false,false,false,false,false] (.aa0 (.con (.int 100))) (.some (.cmp .NotIn (.var 0) (.var 11))) (.var 0)) .nil))) (.cons (.expr (.meth .append (.var 8) (.cons (.tup (.cons (.tup (.cons (.con (.int 25)) (.cons (.con (.int 99)) .nil))) (.cons (.var 11) (.cons (.con (.int 1000000)) (.cons (.con (.int 0)) (.cons (.con (.int 0)) .nil)))))) .nil))) (.cons (.set 12 (.call 6 (.cons (.var 8) (.cons (.var 2) (.cons (.con (.int 1000000)) .nil))))) (.cons (.ret (.cmp .Eq (.var 12) (.call 7 (.cons (.var 8) (.cons (.var 2) (.cons (.con (.int 1000000)) .nil)))))) .nil)))))))))))))))
noncomputable def aEH (K:Fg) (A:bN):SI:=⟨["_law_script", "_law_pieces_here", "_law_words_here", "_law_whole_here", "_law_cell", "_law_way", "_law_wanted", "_law_far_off", "_law_handed", "_law_found", "_law_known", "_law_lot", "_law_more"],[true,true,true,true,true,true,true,true,true,true,true,true,true],[true,true,true,true,true,true,true,true,true,true,false,true,true],[false,false,false,false,false,false,false,false,false,false,true,false,false],[("_law_pieces",.fn (j5 K A) 1 false),("_law_words",.fn (lB K A) 1 false),("sum",.bf .sum),("_law_cell_at",.fn (bF K A) 2 false),("max",.bf .max),("list",.bt "list"),("_law_told",.fn (j7 K A) 3 false),("_law_due",.fn (lU K A) 3 false),("range",.bt "range"),("min",.bf .min)],[true,true,true,true,true,true,true,true,true,true],true,false⟩
structure Txt (K:Fg) (mg:Str->Option Value) (A:bN):Prop where
  rP:A.nG.code = .ref A.rP
  rQ:A.nH.code = .ref A.rQ
  pC:v9 K "is_whole" "is_whole" a5O A.zJ A.oK
  tR:Binds K A.oK ["thing", "least", "most"] []
  tU:mg "is_whole" = some (.ref A.zJ)
  lV:v9 K "is_amount" "is_amount" a2O A.wF A.lQ
  qG:Binds K A.lQ ["thing"] []
  qH:mg "is_amount" = some (.ref A.wF)
  gK:v9 K "need_amount" "need_amount" yV A.qN A.gF
  lD:Binds K A.gF ["thing"] []
  lE:mg "need_amount" = some (.ref A.qN)
  j8:v9 K "numbers_of" "numbers_of" a0M A.sZ A.iT
  mX:Binds K A.iT ["piece"] []
  mY:mg "numbers_of" = some (.ref A.sZ)
  a2D:v9 K "bare" "bare" amS A.aeJ A.a5R
  a69:Binds K A.a5R ["word"] []
  a6A:mg "bare" = some (.ref A.aeJ)
  pF:v9 K "words_of" "words_of" a5P A.zK A.oM
  tV:Binds K A.oM ["text"] []
  tW:mg "words_of" = some (.ref A.zK)
  nJ:v9 K "rule_of" "rule_of" dO A.a2B A.nG
  xY:Binds K A.nG ["text"] []
  xZ:mg "rule_of" = some (.ref A.a2B)
  nO:v9 K "in_turn" "in_turn" a2A A.a2C A.nH
  yC:Binds K A.nH ["pieces", "rule"] []
  yD:mg "in_turn" = some (.ref A.a2C)
  wV:v9 K "picked" "picked" acG A.a5S A.wG
  a1A:Binds K A.wG ["pieces", "rule", "amount"] []
  a1B:mg "picked" = some (.ref A.a5S)
  cX:v9 K "_law_cell_at" "_law_cell_at" wC A.oN A.fD
  dU:Binds K A.fD ["_law_script", "_law_k"] []
  dW:mg "_law_cell_at" = some (.ref A.oN)
  j9:v9 K "_law_whole" "_law_whole" a0N A.tD A.iU
  mZ:Binds K A.iU ["_law_found"] []
  n6:mg "_law_whole" = some (.ref A.tD)
  gM:v9 K "_law_pieces" "_law_pieces" yW A.qO A.gG
  lF:Binds K A.gG ["_law_script"] []
  lG:mg "_law_pieces" = some (.ref A.qO)
  jA:v9 K "_law_words" "_law_words" a0O A.tE A.iV
  n8:Binds K A.iV ["_law_script"] []
  nA:mg "_law_words" = some (.ref A.tE)
  fH:v9 K "_law_numbers" "_law_numbers" wD A.oO A.fG
  jB:Binds K A.fG ["_law_piece", "_law_words_here"] []
  jC:mg "_law_numbers" = some (.ref A.oO)
  jD:v9 K "_law_ahead" "_law_ahead" a0P A.tG A.iW
  nC:Binds K A.iW ["_law_one", "_law_other", "_law_words_here"] []
  nD:mg "_law_ahead" = some (.ref A.tG)
  gO:v9 K "_law_turned" "_law_turned" yX A.qP A.gH
  lH:Binds K A.gH ["_law_pieces_here", "_law_words_here"] []
  lJ:mg "_law_turned" = some (.ref A.qP)
  pG:v9 K "_law_due" "_law_due" a5Q A.zL A.oR
  tX:Binds K A.oR ["_law_pieces_here", "_law_words_here", "_law_wanted"] []
  tY:mg "_law_due" = some (.ref A.zL)
  lW:v9 K "_law_told" "_law_told" a2P A.wH A.lR
  qI:Binds K A.lR ["_law_pieces_here", "_law_words_here", "_law_wanted"] []
  qJ:mg "_law_told" = some (.ref A.wH)
  au4:v9 K "law" "law" acH A.a2Q A.amT
  aEI:Binds K A.amT ["_law_script"] []
  aEJ:mg "law" = some (.ref A.a2Q)
  a1C:mg "DepotError" = some (.ref A.cU)
  fP:ju K A.cU BMv "ValueError.__new__" = true
  eV:(jj K A.cU).isSome=true
  eX:jz K (.ref A.cU)=some (.type "type")
  eY:je K (.ref A.cU) (.type "BaseException")=some true
  zO:mg "NoAmount" = some (.ref A.aZ)
  iB:ju K A.aZ BMv "ValueError.__new__" = true
  dX:(jj K A.aZ).isSome=true
  fJ:jz K (.ref A.aZ)=some (.type "type")
  dY:je K (.ref A.aZ) (.type "BaseException")=some true
  jT:ExC K A.aZ
  iG:gq K (.ref A.aZ) (.type "ValueError")=some true
  wW:mg "TooLittle" = some (.ref A.aW)
  fK:ju K A.aW BMv "ValueError.__new__" = true
  dD:(jj K A.aW).isSome=true
  eF:jz K (.ref A.aW)=some (.type "type")
  dF:je K (.ref A.aW) (.type "BaseException")=some true
  iH:ExC K A.aW
  fQ:gq K (.ref A.aW) (.type "ValueError")=some true
  a6B:mg "NoRule" = some (.ref A.cW)
  pH:ju K A.cW BMv "ValueError.__new__" = true
  jU:(jj K A.cW).isSome=true
  jV:jz K (.ref A.cW)=some (.type "type")
  jW:je K (.ref A.cW) (.type "BaseException")=some true
  bY:je K (.ref A.aZ) (.ref A.cU)=some true
  bV:gq K (.ref A.aZ) (.ref A.aZ)=some true
  cQ:gq K (.ref A.aZ) (.ref A.cW)=some false
  cD:gq K (.ref A.aZ) (.ref A.aW)=some false
  bQ:je K (.ref A.aW) (.ref A.cU)=some true
  bO:gq K (.ref A.aW) (.ref A.aZ)=some false
  cH:gq K (.ref A.aW) (.ref A.cW)=some false
  bZ:gq K (.ref A.aW) (.ref A.aW)=some true
  eZ:∃ t,mg "MOST_AMOUNT" = some (.int 1000000 t)
  tZ:∃ a,mg "WORDS" = some (.ref a)/\∀ H,RD K H (.tup [.str "due",.str "came",.str "amount",.str "aisle",.str "place",.str "lot"]) (.ref a)
  a1D:mg "ValueError" = none
  aeS:mg "bool" = none
  acT:mg "int" = none
  jE:mg "isinstance" = none
  acU:mg "len" = none
  amX:mg "list" = none
  au5:mg "max" = none
  ah0:mg "min" = none
  a1E:mg "range" = none
  acV:mg "sorted" = none
  au6:mg "str" = none
  au7:mg "sum" = none
  ah1:mg "tuple" = none
end Law
namespace Law
open PySem PySem.Spec PyProof.Rows L2 L4 L5 L6
local macro_rules | `(tactic| walk_at "wp")=>`(tactic| first | (simp (maxSteps:=2000000) (implicitDefEqProofs:=false) (disch:=first | rfl | decide | assumption | omega) only [L5.au0,L5.ayR,L5.ayS,L5.aDU,L5.aDV,L5.aDW,L5.x_raise,L5.x_c,L5.ayT,L5.ayU,L5.aI9,L5.ayV,L5.arD,L5.aDY,L5.aIA,L5.aDZ,L5.ayW,L5.ayX,L5.aE0,L5.aE1,L5.aE2,L5.ayY,L5.aE3,L5.aE4,L5.aE5,L5.x_call,L5.aIB,L5.x_m,L5.arE,L5.amI,L5.ayZ,L5.arF,L5.aDX,L5.ayJ,L5.arC,L5.amJ,L5.aE6,L5.az1,L5.az2,L5.arO,L5.az3,L5.x_lt,L5.aIC,L5.aID,L5.arG,L5.arH,L5.arI,L5.arJ,L5.agN,L5.agO,L5.arK,L5.eN,L5.arL,L5.arM,L5.arN,L5.ayK,L5.ayL,L5.ayM,L5.ayN,L5.ayO,L5.ayP,L5.ayQ,L5.ac6,L5.aa5,L5.aeC,L5.ac7,L5.ac8,L5.aa6,L5.ac9,L5.aa7,L5.acA,L5.aeF,L5.aeG,L5.acB,L5.amM,L5.aiQ,L5.aeH,L5.aE8,L5.aE9,L5.aeI,L5.aiR,L5.aiS,L6.arP,L6.aEA,L6.az5,L6.arQ,L6.az6,L6.amP,L6.arR,L6.aa8,L6.arS,L6.aEC,L6.aED,L6.az8,L6.aEE,L6.aEF,L6.arT,L8.aIE,L8.arV,L12.amR,L7.az9,reduceIte,reduceCtorEq];try dsimp only [L5.amE,L5.amF,L5.amG,L5.amH,L6.agS]) | dsimp only [L5.amE,L5.amF,L5.amG,L5.amH,L6.agS])
local macro_rules | `(tactic| exists $ls,*)=>`(tactic| (simp (implicitDefEqProofs:=false) only [$[$ls:term],*];repeat (first | (walk_at "wp") | (simp (implicitDefEqProofs:=false) only [$[$ls:term],*]))))
local macro_rules | `(tactic| walk_at "wr")=>`(tactic| repeat (walk_at "wp"))
variable {n x y z:Str}{ys ws ls:List Str}{ds xs:List D}{ρ:aP}{F:List (List Int)}{ex:aP->aY}{ns:List Int}{r1 r9 r12 r11 r10:Option D}{a l m c u:Int}{p q f b0:Addr}{d d':D}{i j:Nat}{o:Str ⊕ List D}{G':Gp}{ks:List NK}
section
variable {K:Fg} {A:bN} {G:Gp} {R:fM} {EX:aY} {mg:Str->Option Value}
open L7 L8 L12
noncomputable abbrev six:List Str:=["due", "came", "amount", "aisle", "place", "lot"]
noncomputable def bC (w:Str):Str:=if Txt.startswith w "-" = true then Txt.slice w (some 1) none else w
theorem a6C (w:Str):decide (Txt.slice w none (some 1) = "-")=Txt.startswith w "-" := by
  have e1:(Str.ofString "-").length=1:=by decide
  have ed:(Str.ofString "-").cps.toList=[45]:=by decide
  unfold Txt.startswith;by_cases c:1<=w.length
  . have s:=amL w (b:=1) c;rw [show ((1:Nat):Int)=1 from rfl] at s;rw [s];have g:decide (0+(Str.ofString "-").length<=w.length)=true:=decide_eq_true (by rw [e1];omega);rw [g,Bool.true_and];unfold Builtin.Str.subAt;rw [e1];have e2:(w.cps.extract 0 (0+1)).toList=w.cps.toList.take 1:=by simp
    by_cases h:w.cps.toList.take 1=[45]
    . have a:(⟨(w.cps.toList.take 1).toArray⟩:Str)=Str.ofString "-" := by rw [h];decide
      rw [decide_eq_true a];symm;rw [beq_iff_eq,← vh,e2,h,ed]
    . have a:¬ (⟨(w.cps.toList.take 1).toArray⟩:Str)=Str.ofString "-" := fun z=>h (by
        have z:=congrArg (fun s:Str=>s.cps.toList) z;rw [ed] at z;simpa using z)
      rw [decide_eq_false a];symm;rw [beq_eq_false_iff_ne];intro z;rw [← vh,e2,ed] at z;exact h z
  . have z:w.length=0:=by omega
    have g:decide (0+(Str.ofString "-").length<=w.length)=false:=decide_eq_false (by rw [e1];omega);rw [g,Bool.false_and];refine decide_eq_false fun q=>?_;have:=Txt.slice_le w none (some 1);rw [q] at this;have:(Str.ofString "-").length<=w.length:=this;rw [e1] at this;omega
noncomputable def okN (ns:List Str):Prop:=∀ n∈ns,n∈six/\ns.countP (· == n)<=1
theorem aiV {w:Str} (h:Txt.startswith w "-" = true):∃ r,w=⟨(45 :: r).toArray⟩/\bC w=⟨r.toArray⟩:=by
  have e1:(Str.ofString "-").length=1:=by decide
  have ed:(Str.ofString "-").cps.toList=[45]:=by decide
  have h0:=h;unfold Txt.startswith at h;rw [ak,decide_eq_true_eq,e1] at h;obtain ⟨c,h⟩:=h;unfold Builtin.Str.subAt at h;rw [beq_iff_eq,← vh,ed,e1] at h;have e2:(w.cps.extract 0 (0+1)).toList=w.cps.toList.take 1:=by simp
  rw [e2] at h
  obtain ⟨r,er⟩:∃ r,w.cps.toList=45 :: r:=by
    cases q:w.cps.toList with
    | nil=>rw [q] at h;cases h
    | cons a r=>rw [q] at h;simp at h;exact ⟨r,by subst h;rfl⟩
  refine ⟨r,by rw [← er],?_⟩;unfold bC;rw [if_pos h0];have s:=aeD w (a:=1) (by omega);rw [show ((1:Nat):Int)=1 from rfl,er] at s;exact s
noncomputable abbrev aaI:List Str:=["due", "came", "amount", "aisle", "place", "lot", "-due", "-came", "-amount", "-aisle", "-place", "-lot"]
theorem a2E {w:Str} (h:bC w∈six):w∈aaI:=by
  by_cases c:Txt.startswith w "-" = true
  . obtain ⟨r,rfl,e⟩:=aiV c;rw [e] at h;have h:(⟨r.toArray⟩:Str) = "due" ∨ (⟨r.toArray⟩:Str) = "came" ∨ (⟨r.toArray⟩:Str) = "amount" ∨ (⟨r.toArray⟩:Str) = "aisle" ∨ (⟨r.toArray⟩:Str) = "place" ∨ (⟨r.toArray⟩:Str) = "lot" := by simpa [six] using h
    have key:∀ {z:Str},(⟨r.toArray⟩:Str)=z->r=z.cps.toList:=fun e=>by
      have:=congrArg (fun s:Str=>s.cps.toList) e;simpa using this
    rcases h with h | h | h | h | h | h <;> (rw [key h];decide +kernel)
  . have e:bC w=w:=by unfold bC;rw [if_neg c]
    rw [e] at h;have h:w = "due" ∨ w = "came" ∨ w = "amount" ∨ w = "aisle" ∨ w = "place" ∨ w = "lot" := by simpa [six] using h
    rcases h with h | h | h | h | h | h <;> (rw [h];decide +kernel)
theorem arX {w:Str} (h:bC w∈six):Txt.replace w "-" "" = bC w:=by
  have key:∀ w∈aaI,Txt.replace w "-" "" = bC w:=by decide +kernel
  exact key w (a2E h)
theorem a6D {w:Str} (h:bC w∈six):w.length<=7:=by
  have key:∀ w∈aaI,w.length<=7:=by decide +kernel
  exact key w (a2E h)
noncomputable def idF (n:Str):Nat:=six.findIdx (· == n)
theorem au8 (h:n∈six):idF n < 6/\six[idF n]?=some n/\∀ m,m < idF n->six[m]?≠some n:=by
  have key:∀ n∈six,idF n < 6/\six[idF n]?=some n/\∀ m,m < idF n->six[m]?≠some n:=by decide +kernel
  exact key n h
theorem ah2 (n:Str):∀ ys:List Str,(ys.map D.str).any (fun y=>eqP y (.str n))=ys.contains n
  | []=>rfl
  | y :: r=>by
    rw [iu,rm,ah2 n r,List.contains_cons];congr 1;show (y == n)=(n == y);exact wg.mpr ⟨fun z=>by rw [beq_iff_eq] at z ⊢;exact z.symm,fun z=>by rw [beq_iff_eq] at z ⊢;exact z.symm⟩
theorem amY:∀ ys:List Str,(ys.map D.str).all scD=true
  | []=>rfl
  | y :: r=>by rw [iu,mq,amY r];rfl
theorem arY (h:R (.bl (!ys.contains n)) G):sO (.str n) (.tup (ys.map D.str)) G R :=
  ⟨rfl,amY ys,by rw [ah2];exact h⟩
noncomputable def strOf:D->Str
  | .str w=>w
  | _ => ""
theorem aEK {te:cF}:aqI ds te ρ G R=te ρ G fun y G1=>lO (.tup ds) [y] G1 R:=rfl
theorem u0:20000 < sizeLine:=by decide
theorem amZ {w:Str} (hw:w.length<=sizeLine) (h:R (.str (bC w)) G):xV K A [.str w] G R EX:=by
  refine ⟨rfl,?_⟩;replace h:=cP.here h;show aeM K A _ _ [some (.str w)] G;exists aeM;unfold bC at h;by_cases c:Txt.startswith w "-" = true
  . rw [if_pos c];rw [if_pos c] at h;exact ⟨hw,h⟩
  . rw [if_neg c];rw [if_neg c] at h;exact h
theorem an0 (hx:x.length<=10000) (h:∀ q,G q=none->R (.ref q) (aM G q (.lst ((Txt.split x " ").map D.str)))):a3M (.str x) [.str " "] G R:=by
  have b:=u0;have l:=PyProof.Rows.split_le x " ";exact ⟨rfl,by omega,by omega,h⟩
theorem acW {w:Str} (hx:x.length<=10000) (h:w∈Txt.split x " "):w.length<=sizeLine:=by
  have b:=u0;have:=PyProof.Rows.part_short h;omega
variable {r0:Option D}
theorem aeU {F:fU} {q2:Addr} {ns:List Str} (h2:G q2=some (.lst (ns.map D.str)))
    (hok:okN ns->∀ r G',Le G G'->F.nx [r0,r1,some (.ref q2),r] G') (hbad:¬ okN ns->∀ ρ G',Le G G'->ex ρ A.cW G'):lY (a9R (aB 2)) (oA 3) (qR K A ex) F [r0,r1,some (.ref q2),none] G:=by
  have b:=u0;rw [amP];walk_at "wr";rw [rN (aK h2)];refine wB (fun k ρ G'=>∃ r,ρ=[r0,r1,some (.ref q2),r]/\(∀ n∈ns.take k,n∈six/\ns.countP (· == n)<=1)/\Le G G') ⟨none,rfl,fun n hn=>by simp at hn,.refl _⟩ (fun k ρ G' ⟨_,_,_,l⟩=>aK (l _ _ h2)) (fun k d ρ G' hk ⟨_,e,hp,l⟩=>?_) fun ρ G' ⟨r,e,hp,l⟩=>?_
  . subst e;rw [jo] at hk;obtain ⟨n,hn,rfl⟩:=lg.mp hk;exists qR;have hm:n∈ns:=jk hn;refine arY (ys:=six) ?_;walk_at "wr";have l2:=aK (l _ _ h2);by_cases c:n∈six
    . rw [if_neg (by rw [yw.mpr c];decide)];rw [mU,l2];refine ⟨rfl,?_⟩;rw [count_at l2];walk_at "wr";by_cases c2:ns.countP (· == n)<=1
      . rw [decide_eq_false (by omega)];walk_at "wr";refine ⟨_,rfl,fun m hm=>?_,l⟩;rw [uh,qx] at hm;rcases hm with hm | hm
        . exact hp m hm
        . rw [hn] at hm;have:m=n:=by simpa using hm
          subst this;exact ⟨c,c2⟩
      . rw [decide_eq_true (by omega)];walk_at "wr";exact hbad (fun z=>c2 (z n hm).2) _ _ l
    . rw [if_pos (by rw [← Bool.not_eq_true,yw];exact c)];exact hbad (fun z=>c (z n hm).1) _ _ l
  . subst e;rw [au,qb] at hp;exact hok hp _ _ l
theorem aeV (hx:x.length<=10000) (h:okN ((Txt.split x " ").map bC)->∀ G' q,Le G G'->G' q=some (.lst ((Txt.split x " ").map D.str))->R (.ref q) G') (hbad:¬ okN ((Txt.split x " ").map bC)->∀ G',Le G G'->EX A.cW G'):qC K A [.str x] G R EX:=by
  have b:=u0;refine ⟨rfl,?_⟩;show zM K A _ _ [some (.str x),none,none,none] G;exists zM,a0T;refine an0 hx fun q hq=>?_;have sl:=PyProof.Rows.split_le x " ";have l1:Le G (aM G q (.lst ((Txt.split x " ").map D.str))) := .new hq;exists a0S;rw [wA eN];refine comp_map (fun d => .str (bC (strOf d))) (by show ((Txt.split x " ").map D.str).length < sizeLine;rw [au];omega) eN (fun d hd G' l Q hQ=>?_) fun q2 hq2=>?_
  . have hd:d∈(Txt.split x " ").map D.str:=hd;obtain ⟨w,hw,rfl⟩:=jc.mp hd;walk_at "wr";exact amZ (acW hx hw) (hQ _ (.refl _))
  . have en:((Src.lst q ((Txt.split x " ").map D.str)).items.map fun d=>D.str (bC (strOf d)))=((Txt.split x " ").map bC).map D.str:=by
      show ((Txt.split x " ").map D.str).map _=_;rw [jm,jm];rfl
    rw [en];exists a0R;have l2:=l1.trans (Le.new (o := .lst (((Txt.split x " ").map bC).map D.str)) hq2);refine aeU (ns:=(Txt.split x " ").map bC) aD (fun ok r G' l=>?_) fun nk ρ G' l=>fV.here (hbad nk _ (l2.trans l));exists a0Q;exact cP.here (h ok _ _ (l2.trans l) (l _ _ (bK aD hq2)))
noncomputable abbrev wX (w:Str):D := .tup [.int (idF (bC w)),.bl (Txt.startswith w "-")]
noncomputable abbrev arZ:GO := .tab bU.qual (ac4 (inBody dO 1))
theorem aiW (hT:G A.eU=some arZ) (hx:x.length<=10000) (h:okN ((Txt.split x " ").map bC)->∀ G' q f,Le G G'->G' q=some (.lst ((Txt.split x " ").map wX))->G' f=some (.clo bU (.ref q))->R (.ref f) G') (hbad:¬ okN ((Txt.split x " ").map bC)->∀ G',Le G G'->EX A.cW G'):tK K A [.str x] G R EX:=by
  have b:=u0;refine ⟨rfl,?_⟩;show xW K A _ _ [some (.str x),none,none] G;exists xW;refine aeV hx (fun ok G1 q l hq=>?_) fun nk G1 l=>fV.here (hbad nk G1 l);rw [wA (aK hq)];have sl:=PyProof.Rows.split_le x " ";refine comp_map (fun d=>wX (strOf d)) (by show ((Txt.split x " ").map D.str).length < sizeLine;rw [au];omega) (aK hq) (fun d hd G' l' Q hQ=>?_) fun q2 hq2=>?_
  . have hd:d∈(Txt.split x " ").map D.str:=hd;obtain ⟨w,hw,rfl⟩:=jc.mp hd;walk_at "wr";exists aEK;refine amZ (acW hx hw) ?_;have m6:=(ok (bC w) (jc.mpr ⟨w,hw,rfl⟩)).1;obtain ⟨i1,i2,i3⟩:=au8 m6;refine aiU (ys:=six) (idF (bC w)) i2 i3 ?_;walk_at "wr";exact hQ _ (.refl _)
  . have en:((Src.lst q ((Txt.split x " ").map D.str)).items.map fun d=>wX (strOf d))=(Txt.split x " ").map wX:=by
      show ((Txt.split x " ").map D.str).map _=_;rw [jm];rfl
    rw [en];walk_at "wr";have l2:=l.trans (Le.new (o := .lst ((Txt.split x " ").map wX)) hq2);refine ⟨l2 _ _ hT,_,rfl,fun f hf=>?_⟩;exact h ok _ q2 f (l2.trans (.new hf)) (bK aD hf) aD
noncomputable abbrev pcD (a p l m d c:Int):D := .tup [.tup [.int a,.int p],.int l,.int m,.int d,.int c]
noncomputable abbrev nsI (a p l m d c:Int):List Int:=[d,c,m,a,p,l]
theorem azC {p d:Int} (h:R (.tup ((nsI a p l m d c).map D.int)) G):kY K A [pcD a p l m d c] G R EX:=by
  refine ⟨rfl,?_⟩;replace h:=cP.here h;show tH K A _ _ [some (pcD a p l m d c)] G;have i3:∀ {R:fM},cB (pcD a p l m d c) (.int 3) G R=R (.int d) G:=rfl;have i4:∀ {R:fM},cB (pcD a p l m d c) (.int 4) G R=R (.int c) G:=rfl;exists tH,i3,i4;exact h
noncomputable def wY (vs:List Int) (w:Str):Int:=if Txt.startswith w "-" = true then - vs.getD (idF (bC w)) 0 else vs.getD (idF (bC w)) 0
theorem aiX (h:bI G q=some ds):a0G [.ref q] G R=R (.tup ds) G:=by
  unfold a0G;simp only [h]
noncomputable def prt:D->Nat×Bool
  | .tup [.int i,.bl b]=>(i.toNat,b)
  | _=>(0,false)
theorem at6 {vs:List Int} (h6:vs.length=6) (hi:i < 6):yL (vs.map D.int) (i:Int)=some (.int (vs.getD i 0)):=by
  rw [zH,jo,dh (by omega)];simp [ud,dh (show i < vs.length by omega)]
theorem aeW {p d:Int} (hq:G q=some (.lst (ws.map wX))) (h6:∀ w∈ws,bC w∈six) (hl:ws.length<=20000) (h:∀ G',Le G G'->R (.tup (ws.map fun w => .int (wY (nsI a p l m d c) w))) G'):gJ K A [.ref q,pcD a p l m d c] G R EX:=by
  have b:=u0;refine ⟨rfl,?_⟩;show mW K A _ _ [some (.ref q),some (pcD a p l m d c),none] G;exists mW;refine azC ?_;exists wJ;rw [wA (aK hq)];refine acC (fun d=>[.int (prt d).1,.bl (prt d).2]) (fun _=>true) (fun e => .int (if (prt e).2=true then - (nsI a p l m d c).getD (prt e).1 0 else (nsI a p l m d c).getD (prt e).1 0)) (by show (ws.map wX).length < sizeLine;rw [au];omega) (aK hq) (fun e he=>?_) (fun e he G' l' Q hQ=>?_) (fun e he _ G' l' Q hQ=>?_) fun q2 hq2=>?_
  . have he:e∈ws.map wX:=he;obtain ⟨w,hw,rfl⟩:=jc.mp he;rfl
  . exact hQ _ (.refl _)
  . have he:e∈ws.map wX:=he;obtain ⟨w,hw,rfl⟩:=jc.mp he;obtain ⟨i1,i2,i3⟩:=au8 (h6 w hw);have e0:(prt (wX w)).1=idF (bC w):=rfl;have e1:(prt (wX w)).2=Txt.startswith w "-" := rfl;rw [e0,e1] at hQ;show ai6 _ _ _ [some (.int (idF (bC w):Nat)),some (.bl (Txt.startswith w "-")),some (.ref q),some (pcD a p l m d c),some (.tup ((nsI a p l m d c).map D.int))] G' Q;have ix:∀ {R:fM} {G:Gp},cB (.tup ((nsI a p l m d c).map D.int)) (.int (idF (bC w):Nat)) G R=R (.int ((nsI a p l m d c).getD (idF (bC w)) 0)) G:=fun {R G}=>aa4 (at6 rfl i1);generalize nsI a p l m d c=vs at ix hQ ⊢;walk_at "wr";by_cases c:Txt.startswith w "-" = true
    . rw [if_pos c] at hQ ⊢;exists ix;exact hQ _ (.refl _)
    . rw [if_neg c] at hQ ⊢;exists ix;exact hQ _ (.refl _)
  . have en:((List.filter (fun _=>true) (Src.lst q (ws.map wX)).items).map fun e=>D.int (if (prt e).2=true then - (nsI a p l m d c).getD (prt e).1 0 else (nsI a p l m d c).getD (prt e).1 0))=ws.map fun w=>D.int (wY (nsI a p l m d c) w):=by
      rw [zy.mpr fun _ _=>rfl];show (ws.map wX).map _=_;rw [jm];rfl
    rw [en,aiX eN];exact cP.here (h _ (.new hq2))
theorem ah3 {o:GO} (h:G p=some o) (n:ab9 o=false):offC G p=some o:=by
  unfold offC;simp only [h,n];rfl
theorem azD (l:Le (offC G) G'):Le G (onC G G'):=fun a o h=>by
  unfold onC;simp only [h];by_cases c:ab9 o=true
  . rw [if_pos c]
  . rw [if_neg c];exact l a o (ah3 h (by simpa using c))
theorem aEL {p d:Int} {t:pL} (hi:at3 ρ i=some (.ref f)) (hf:G f=some (.clo bU (.ref q))) (hq:G q=some (.lst (ws.map wX))) (h6:∀ w∈ws,bC w∈six) (hl:ws.length<=20000)
    (ht:∀ Q:List D->Gp->Prop,Q [pcD a p l m d c] G->t ρ G Q) (h:∀ G',Le G G'->R (.tup (ws.map fun w => .int (wY (nsI a p l m d c) w))) G'):a9G i bU (gJ K A) t ρ G R :=
  ⟨f,.ref q,hi,hf,ht _ ⟨hf,aeW (ah3 hq rfl) h6 hl fun G' l'=>h _ (azD l')⟩⟩
noncomputable def HS (G:Gp) (p:Addr) (xs:List D) (G':Gp):Prop:=G' p=some (.lst xs)/\∀ q u,q≠p->G q=some u->G' q=some u
theorem HS.le (h:HS G p xs G'):Le (aM G p (.lst xs)) G':=fun q u e=>by
  by_cases c:q=p
  . subst c;rw [aD] at e;exact e ▸ h.1
  . rw [aX c] at e;exact h.2 q u c e
theorem HS.new {o:GO} (h:HS G p xs G') (hq:G' q=none):HS G p xs (aM G' q o):=⟨bK h.1 hq,fun r u n e=>bK (h.2 r u n e) hq⟩
theorem HS.trans {ys:List D} {G2:Gp} (h:HS G p xs G') (h2:HS G' p ys G2):HS G p ys G2:=⟨h2.1,fun r u n e=>h2.2 r u n (h.2 r u n e)⟩
theorem HS.put {ys:List D} (h:G p=some (.lst xs)):HS G p ys (aM G p (.lst ys)):=⟨aD,fun r u n e=>by rw [aX n];exact e⟩
theorem HS.leG (h:HS G p xs G') (hp:G p=none):Le G G':=fun r u e=>h.2 r u (fun z=>by subst z;rw [hp] at e;cases e) e
theorem HS.mk0:HS G p xs (aM G p (.lst xs)):=⟨aD,fun r u n e=>by rw [aX n];exact e⟩
theorem HS.snd {ys:List D} (h:HS G p xs G'):HS G p ys (aM G' p (.lst ys)):=h.trans (.put h.1)
theorem as3 {ks:List Str} {t:pL}:a9Y ks t ρ G R=∀ p,G p=none->t ρ (aM G p (.lX false [])) fun ds G2=>G2 p=some (.lX false [])/\R (.ref p) (aM G2 p (.lX false (kvS ks ds []))):=rfl
theorem azE {j:Str}:rK (.str j) [.str y,.str z] G R=(j.length+(j.length+1) * z.length<=16777216/\R (.str (Txt.replace j y z)) G):=rfl
noncomputable abbrev acY:List Str:=["due", "came", "amount", "aisle", "place"]
theorem as4 {p d:Int} (h:n∈six):(gR (kvS acY [.int d,.int c,.int m,.int a,.int p] []) (.inl (.inr n))).getD (.int l) = .int ((nsI a p l m d c).getD (idF n) 0):=by
  have h:n = "due" ∨ n = "came" ∨ n = "amount" ∨ n = "aisle" ∨ n = "place" ∨ n = "lot" := by simpa [six] using h
  rcases h with h | h | h | h | h | h <;> (subst h;rfl)
theorem a8V {p d:Int} (hq:G q=some (.lst (ws.map D.str))) (h6:∀ w∈ws,bC w∈six) (hl:ws.length<=20000) (h:∀ G' r,Le G G'->G' r=some (.lst (ws.map fun w => .int (wY (nsI a p l m d c) w)))->R (.ref r) G'):eO K A [pcD a p l m d c,.ref q] G R EX:=by
  have b:=u0;refine ⟨rfl,?_⟩;show p7 K A _ _ [some (pcD a p l m d c),some (.ref q),none,none,none,none,none] G;exists p7;intro r hr;have nq:q≠r:=jN hq hr;exists rZ;rw [rN (aK (bK hq hr))];refine wB (fun k ρ G'=>∃ r3 r4 r5 r6,ρ=[some (pcD a p l m d c),some (.ref q),some (.ref r),r3,r4,r5,r6]/\HS G r ((ws.take k).map fun w => .int (wY (nsI a p l m d c) w)) G') ⟨_,_,_,_,rfl,HS.mk0⟩ (fun k ρ G' ⟨_,_,_,_,_,s⟩=>aK (s.2 _ _ nq hq)) (fun k e ρ G' hk ⟨_,_,_,_,e1,s⟩=>?_) fun ρ G' ⟨_,_,_,_,e1,s⟩=>?_
  . subst e1;rw [jo] at hk;obtain ⟨w,hw,rfl⟩:=lg.mp hk;have w6:=h6 w (jk hw);have wl:=a6D w6;exists qF;rw [azE,arX w6];refine ⟨by rw [show (Str.ofString "").length=0 from rfl];omega,?_⟩;exists mH,as3;intro z hz;have i3:∀ {R:fM} {G:Gp},cB (pcD a p l m d c) (.int 3) G R=R (.int d) G:=fun {R G}=>rfl;have i4:∀ {R:fM} {G:Gp},cB (pcD a p l m d c) (.int 4) G R=R (.int c) G:=fun {R G}=>rfl;rw [i3,i4];refine ⟨aD,?_⟩;rw [a5F];have s2:=s.new (o := .lX false (kvS acY [.int d,.int c,.int m,.int a,.int p] [])) hz;have told:=as4 (a:=a) (p:=p) (l:=l) (m:=m) (d:=d) (c:=c) w6;have dz:aM G' z (.lX false (kvS acY [.int d,.int c,.int m,.int a,.int p] [])) z=some (.lX false (kvS acY [.int d,.int c,.int m,.int a,.int p] [])):=aD;generalize aM G' z (.lX false (kvS acY [.int d,.int c,.int m,.int a,.int p] []))=G2 at s2 dz ⊢;exists mF,acE dz;rw [acF dz rfl rfl,told];exists mD;have sl:∀ {R:fM},awU (.str w) none (some 1) G2 R=R (.str (Txt.slice w none (some 1))) G2:=fun {R}=>propext ⟨fun z=>z.2,fun z=>⟨by omega,z⟩⟩;rw [sl];walk_at "wr"
    have nx:∀ {v:Int} {r5 r6:Option D},v=wY (nsI a p l m d c) w->fY K A (fun _=>fV EX) { nx:=fun ρ G'=>∃ r3 r4 r5 r6,ρ=[some (pcD a p l m d c),some (.ref q),some (.ref r),r3,r4,r5,r6]/\HS G r ((ws.take (k+1)).map fun w => .int (wY (nsI a p l m d c) w)) G',rt:=cP R,bk:=jQ K A (fun _=>fV EX) { nx:=fun _ G'=>cP R .non G',rt:=cP R },ct:=fun ρ G'=>∃ r3 r4 r5 r6,ρ=[some (pcD a p l m d c),some (.ref q),some (.ref r),r3,r4,r5,r6]/\HS G r ((ws.take (k+1)).map fun w => .int (wY (nsI a p l m d c) w)) G' } [some (pcD a p l m d c),some (.ref q),some (.ref r),some (.str w),r5,r6,some (.int v)] G2:=fun {v r5 r6} ev=>by
      subst ev;exists fY;rw [mU,aK s2.1];refine ⟨rfl,?_⟩;rw [rO s2.1 (by rw [au,ou];omega)];refine ⟨_,_,_,_,rfl,?_⟩
      have en:(ws.take (k+1)).map (fun w=>D.int (wY (nsI a p l m d c) w))=(ws.take k).map (fun w=>D.int (wY (nsI a p l m d c) w))++[.int (wY (nsI a p l m d c) w)]:=by
        rw [uh,hw,jx];rfl
      rw [en];exact s2.snd
    by_cases cc:Txt.startswith w "-" = true
    . have e0:Txt.slice w none (some 1)=Str.ofString "-" := of_decide_eq_true ((a6C w).trans cc);rw [if_pos (by simp [e0])];walk_at "wr";refine nx ?_;unfold wY;rw [if_pos cc];omega
    . have e0:¬ Txt.slice w none (some 1)=Str.ofString "-" := of_decide_eq_false ((a6C w).trans (by simpa using cc));rw [if_neg (by simpa using e0)];walk_at "wr";refine nx ?_;unfold wY;rw [if_neg cc]
  . subst e1;rw [au,qb] at s;exists jQ;exact cP.here (h _ _ (s.leG hr) s.1)
noncomputable def cellAt (ns:List Int) (k:Nat):Int:=if k < ns.length then ns.getD k 0 else if ns=[] then 0 else
  let m:=(ns.getD (k % ns.length) 0 * 48271+k * 104729) % 2147483647
  (m * m+48271 * k) % 2147483629
theorem zP {a:Addr} (hG:G a=some (.rol (ns.map D.int))) {k:Nat} (hk:k < 1000) (h:R (.int (cellAt ns k)) G):bF K A [.ref a,.int (k:Int)] G R EX:=by
  refine ⟨rfl,?_⟩;replace h:=cP.here h;show oU K A _ _ [some (.ref a),some (.int k),none] G;exists oU,xU (w5 hG);by_cases c:k < ns.length
  . rw [if_pos (decide_eq_true (by omega))];have e:yL (ns.map D.int) (k:Int)=some (.int (ns.getD k 0)):=by rw [zH];simp [c,ud]
    rw [jM (w5 hG) e];rw [show cellAt ns k=ns.getD k 0 by unfold cellAt;rw [if_pos c]] at h;exact h
  . rw [if_neg (by simp;omega)];exists rY,xU (w5 hG);by_cases hn:ns=[]
    . subst hn;rw [show cellAt [] k=0 by unfold cellAt;simp] at h;exact h
    . have h0:0 < (ns.length:Int):=by cases ns with
        | nil=>exact absurd rfl hn
        | cons n r=>simp
      have e0:((ns.length:Int) == 0)=false:=by simp;exact hn
      rw [e0];exists rW,xU (w5 hG);have hm:k % ns.length < ns.length:=Nat.mod_lt _ (by omega)
      have e2:yL (ns.map D.int) ((k:Int) % (ns.length:Int))=some (.int (ns.getD (k % ns.length) 0)):=by
        rw [← Int.natCast_emod,zH];simp [hm,ud]
      rw [jM (w5 hG) e2];exists rT
      have ec:cellAt ns k=((ns.getD (k % ns.length) 0 * 48271+(k:Int) * 104729) % 2147483647 * ((ns.getD (k % ns.length) 0 * 48271+(k:Int) * 104729) % 2147483647)+48271 * (k:Int)) % 2147483629:=by
        unfold cellAt;rw [if_neg c,if_neg hn]
      rw [← ec];exact h
structure Pc where
  a:Int
  p:Int
  l:Int
  m:Int
  d:Int
  c:Int
noncomputable abbrev pD (x:Pc):D:=pcD x.a x.p x.l x.m x.d x.c
noncomputable abbrev nX (x:Pc):List Int:=nsI x.a x.p x.l x.m x.d x.c
noncomputable def nM (ws:List Str) (x:Pc):List Int:=ws.map (wY (nX x))
noncomputable def fL (ws:List Str) (x:Pc):List Int:=nM ws x++[x.a,x.p,x.l]
noncomputable def k3F (ws:List Str) (x:Pc):K3:=(nM ws x,[x.a,x.p],x.l)
theorem wZ:∀ x:List Int,HT.lexLt x x=false
  | []=>rfl
  | a :: r=>by rw [HT.dZ,if_pos rfl,wZ r]
theorem a6E:∀ {x y z:List Int},HT.lexLt x y=true->HT.lexLt y z=true->HT.lexLt x z=true
  | [],_,[],_,h=>by
    rename_i y _;cases y <;> cases h
  | [],_,_ :: _,_,_=>rfl
  | _ :: _,[],_,h,_=>by cases h
  | _ :: _,_ :: _,[],_,h=>by cases h
  | a :: x,b :: y,c :: z,h1,h2=>by
    rw [HT.dZ] at h1 h2 ⊢;by_cases e1:a=b
    . subst e1;rw [if_pos rfl] at h1;by_cases e2:a=c
      . subst e2;rw [if_pos rfl] at h2 ⊢;exact a6E h1 h2
      . rw [if_neg e2] at h2 ⊢;exact h2
    . rw [if_neg e1] at h1;have h1:=of_decide_eq_true h1;by_cases e2:b=c
      . subst e2;rw [if_neg e1];exact decide_eq_true h1
      . rw [if_neg e2] at h2;have h2:=of_decide_eq_true h2;rw [if_neg (by omega)];exact decide_eq_true (by omega)
theorem a3R:∀ {x y:List Int},x≠y->HT.lexLt x y=true∨HT.lexLt y x=true
  | [],[],h=>absurd rfl h
  | [],_ :: _,_ => .inl rfl
  | _ :: _,[],_ => .inr rfl
  | a :: x,b :: y,h=>by
    rw [HT.dZ,HT.dZ];by_cases e:a=b
    . subst e;rw [if_pos rfl,if_pos rfl];exact a3R fun z=>h (by rw [z])
    . rw [if_neg e,if_neg (fun z=>e z.symm)];rcases Int.lt_or_gt_of_ne e with c | c
      . exact .inl (decide_eq_true c)
      . exact .inr (decide_eq_true c)
theorem an1 {x y:List Int} (h:HT.lexLt x y=true):HT.lexLt y x=false:=by
  cases e:HT.lexLt y x with
  | false=>rfl
  | true =>
    have:=a6E h e;rw [wZ] at this;cases this
theorem a3S:∀ {x y b d:List Int},x.length=y.length->HT.lexLt (x++b) (y++d)=if x=y then HT.lexLt b d else HT.lexLt x y
  | [],[],_,_,_=>by simp
  | [],_ :: _,_,_,h=>by simp at h
  | _ :: _,[],_,_,h=>by simp at h
  | a :: x,c :: y,b,d,h=>by
    rw [tu,tu,HT.dZ,HT.dZ,a3S (by simpa using h)];by_cases e:a=c
    . subst e;rw [if_pos rfl,if_pos rfl];by_cases z:x=y
      . rw [if_pos z,if_pos (by rw [z])]
      . rw [if_neg z,if_neg (fun q=>z (by injection q))]
    . rw [if_neg e,if_neg e,if_neg (fun q=>e (by injection q))]
theorem aeX {x y:Pc}:(nM ws x).length=(nM ws y).length:=by unfold nM;rw [au,au]
theorem azF (ws:List Str) (x y:Pc):ltK (k3F ws x) (k3F ws y)=HT.lexLt (fL ws x) (fL ws y):=by
  unfold ltK k3F fL;rw [a3S aeX];dsimp only;by_cases e:nM ws x=nM ws y
  . rw [if_pos e,if_pos e];rw [show [x.a,x.p,x.l]=[x.a,x.p]++[x.l] from rfl,show [y.a,y.p,y.l]=[y.a,y.p]++[y.l] from rfl,a3S (x:=[x.a,x.p]) (y:=[y.a,y.p]) rfl];by_cases e2:[x.a,x.p]=[y.a,y.p]
    . rw [if_pos e2,if_pos e2,HT.dZ];by_cases e3:x.l=y.l
      . rw [if_pos e3,e3];exact decide_eq_false (Int.lt_irrefl _)
      . rw [if_neg e3]
    . rw [if_neg e2,if_neg e2]
  . rw [if_neg e,if_neg e]
theorem an2 {p q:List Int->Bool}:∀ {F:List (List Int)},(∀ z∈F,p z=true->q z=true)->(∃ z∈F,q z=true/\p z=false)->F.countP p < F.countP q
  | [],_,⟨z,h,_⟩=>nomatch h
  | a :: r,h,⟨z,hz,q1,p1⟩=>by
    have le:r.countP p<=r.countP q:=List.countP_mono_left fun z hz=>h z (iw _ hz);rw [List.countP_cons,List.countP_cons];rcases jq.mp hz with rfl | hz
    . rw [q1,p1];simp;omega
    . have ih:=an2 (fun z hz=>h z (iw _ hz)) ⟨z,hz,q1,p1⟩;cases e:p a with
      | false=>simp;split <;> omega
      | true=>rw [h a qj e];simp;omega
noncomputable def rk (F:List (List Int)) (i:Nat):Int:=(F.countP fun z=>HT.lexLt z (F.getD i []):Nat)
theorem ah4 (hi:i < F.length) (h:HT.lexLt (F.getD i []) (F.getD j [])=true):rk F i < rk F j:=by
  unfold rk;have:=an2 (p:=fun z=>HT.lexLt z (F.getD i [])) (q:=fun z=>HT.lexLt z (F.getD j [])) (F:=F) (fun z _ hz=>a6E hz h) ⟨F.getD i [],by rw [getD_at hi];exact List.getElem_mem _,h,wZ _⟩;omega
theorem an3 (nd:F.Nodup) (hi:i < F.length) (hj:j < F.length) (e:F.getD i []=F.getD j []):i=j:=by
  rw [getD_at hi,getD_at hj] at e;have key:=qw.mp nd;rcases yc i j with w | w | w
  . exact absurd e (key _ _ hi hj w)
  . exact w
  . exact absurd e.symm (key _ _ hj hi w)
theorem an4 (nd:F.Nodup) (hi:i < F.length) (hj:j < F.length) (e:rk F i=rk F j):i=j:=by
  refine an3 nd hi hj ?_;by_cases c:F.getD i []=F.getD j []
  . exact c
  . rcases a3R c with z | z
    . have:=ah4 hi z;omega
    . have:=ah4 hj z;omega
theorem an5 (nd:F.Nodup) (hi:i < F.length) (hj:j < F.length):HT.lexLt (F.getD i []) (F.getD j [])=decide (rk F i < rk F j):=by
  by_cases c:F.getD i []=F.getD j []
  . have:=an3 nd hi hj c;subst this;rw [wZ];exact (decide_eq_false (Int.lt_irrefl _)).symm
  . rcases a3R c with z | z
    . rw [z];exact (decide_eq_true (ah4 hi z)).symm
    . rw [an1 z];exact (decide_eq_false (by have:=ah4 hj z;omega)).symm
noncomputable def Tn (ws:List Str) (qs:List Pc):Prop:=qs.Pairwise fun x y=>HT.lexLt (fL ws x) (fL ws y)=true
theorem azG {xs ys zs:List Pc} (hx:xs.Perm zs) (hy:ys.Perm zs) (tx:Tn ws xs) (ty:Tn ws ys):xs=ys :=
  (hx.trans hy.symm).eq_of_pairwise (fun a b _ _ h1 h2=>by rw [an1 h1] at h2;cases h2) tx ty
noncomputable def ky3 (x:Pc):List Int:=[x.a,x.p,x.l]
noncomputable def Unl (ps:List Pc):Prop:=(ps.map ky3).Nodup
theorem azH {x y:Pc} (h:fL ws x=fL ws y):ky3 x=ky3 y:=by
  unfold fL at h;exact (List.append_inj h aeX).2
variable {ps:List Pc}
theorem aeY (h:Unl ps):(ps.map (fL ws)).Nodup:=by
  unfold Unl List.Nodup at h;unfold List.Nodup;rw [List.pairwise_map] at h ⊢;exact h.imp fun h z=>h (azH z)
theorem aiY (h:Unl ps) {q:Array Nat} (P:Pm ps.length q) (u:Up (rk (ps.map (fL ws))) q ps.length):∃ qs:List Pc,(q.toList.map fun i=>(ps.map pD).getD i .non)=qs.map pD/\qs.Perm ps/\Tn ws qs:=by
  have nd:=aeY (ws:=ws) h;have hin:∀ i∈q.toList,i < ps.length:=fun i hi=>ni.mp (P.perm.mem_iff.mp hi);have gp:∀ i,i < ps.length->(ps.map (fL ws)).getD i []=fL ws (ps.getD i ⟨0,0,0,0,0,0⟩):=fun i hi=>by simp [ud,hi]
  refine ⟨q.toList.map fun i=>ps.getD i ⟨0,0,0,0,0,0⟩,?_,?_,?_⟩
  . rw [jm];refine zx fun i hi=>?_;have:=hin i hi;simp [ud,this]
  . have id0:(gk ps.length).map (fun i=>ps.getD i ⟨0,0,0,0,0,0⟩)=ps:=by
      apply List.ext_getElem (by simp);intro i h1 h2;simp [h2]
    have:=P.perm.map fun i=>ps.getD i ⟨0,0,0,0,0,0⟩;rw [id0] at this;exact this
  . unfold Tn;rw [List.pairwise_map,qw];intro i j hi hj hij;have li:i < q.size:=by simpa using hi
    have lj:j < q.size:=by simpa using hj
    have gi:q.toList[i]=q.getD i 0:=by simp [Array.getD,li]
    have gj:q.toList[j]=q.getD j 0:=by simp [Array.getD,lj]
    rw [gi,gj];have bi:=P.lt (i:=i) (by rw [← P.size];exact li);have bj:=P.lt (i:=j) (by rw [← P.size];exact lj);rw [← gp _ bi,← gp _ bj,an5 nd (by rw [au];exact bi) (by rw [au];exact bj)];have le:rk (ps.map (fL ws)) (q.getD i 0)<=rk (ps.map (fL ws)) (q.getD j 0):=u i j (nj hij) (by rw [← P.size];exact lj);refine decide_eq_true ?_;rcases Int.lt_or_eq_of_le le with z | z
    . exact z
    . exfalso;have e:=an4 nd (by rw [au];exact bi) (by rw [au];exact bj) z;have:=P.inj (by rw [← P.size];exact li) (by rw [← P.size];exact lj) e;omega
variable {qs:List Pc}
theorem azI {x:Pc} (t:Tn ws qs) (hj:j<=qs.length) (nx:∀ y∈qs,fL ws x≠fL ws y) (hb:∀ i y,j<=i->qs[i]?=some y->HT.lexLt (fL ws x) (fL ws y)=true) (ha:∀ y,0 < j->qs[j - 1]?=some y->HT.lexLt (fL ws x) (fL ws y)=false):Tn ws (qs.take j++x :: qs.drop j)/\(qs.take j++x :: qs.drop j).Perm (qs++[x]):=by
  constructor
  . unfold Tn at t ⊢;rw [List.pairwise_append,List.pairwise_cons];refine ⟨t.sublist (List.take_sublist _ _),⟨fun y hy=>?_,t.sublist (List.drop_sublist _ _)⟩,fun y hy z hz=>?_⟩
    . obtain ⟨i,hi⟩:=vf.mp hy;rw [List.getElem?_drop] at hi;exact hb _ y (by omega) hi
    . obtain ⟨i,hi⟩:=vf.mp hy;rw [List.getElem?_take] at hi;split at hi
      . rename_i ij;have hlt:i < qs.length:=by omega
        have yx:HT.lexLt (fL ws y) (fL ws x)=true:=by
          obtain ⟨w,hw⟩:∃ w,qs[j - 1]?=some w:=⟨_,dh (by omega)⟩;have n1:=ha w (by omega) hw
          have w1:HT.lexLt (fL ws w) (fL ws x)=true:=by
            rcases a3R (nx w (jk hw)) with z | z
            . rw [n1] at z;cases z
            . exact z
          by_cases c:i=j - 1
          . rw [c,hw] at hi;cases hi;exact w1
          . have:=qw.mp t i (j - 1) hlt (by omega) (by omega);rw [(cj.mp hi).2,(cj.mp hw).2] at this;exact a6E this w1
        rcases jq.mp hz with rfl | hz
        . exact yx
        . obtain ⟨i2,hi2⟩:=vf.mp hz;rw [List.getElem?_drop] at hi2;exact a6E yx (hb _ z (by omega) hi2)
      . cases hi
  . have:(qs.take j++x :: qs.drop j).Perm (x :: (qs.take j++qs.drop j)):=List.perm_middle;rw [za] at this;exact this.trans (List.perm_append_comm (l₁:=[x]) (l₂:=qs))
theorem ah5 {c:Nat}:∀ {a b r q:List Nat},c ∉ a->c ∉ b->a++c :: r=b++c :: q->a=b/\r=q
  | [],[],_,_,_,_,h=>by simpa using h
  | [],y :: b,_,_,_,hb,h=>by
    simp at h;exact absurd (by simp [h.1]) hb
  | x :: a,[],_,_,ha,_,h=>by
    simp at h;exact absurd (by simp [h.1]) ha
  | x :: a,y :: b,r,q,ha,hb,h=>by
    simp only [tu,List.cons.injEq] at h;obtain ⟨e1,e2⟩:=ah5 (fun z=>ha (by simp [z])) (fun z=>hb (by simp [z])) h.2;exact ⟨by rw [h.1,e1],e2⟩
noncomputable abbrev blk:Str:=⟨#[32]⟩
theorem ah6 (x y:Str) (r:List Str):(Str.join blk (x :: y :: r)).cps.toList=x.cps.toList++32 :: (Str.join blk (y :: r)).cps.toList:=by
  show ((x.cps++#[32])++(Str.join blk (y :: r)).cps).toList=_;simp
theorem ah7 (h:x.cps.toList=y.cps.toList):x=y:=by
  have:x.cps=y.cps:=vh.mp h;cases x;cases y;simp at this;rw [this]
theorem join_one:∀ {xs ys:List Str},xs≠[]->ys≠[]->(∀ x∈xs,32 ∉ x.cps.toList)->(∀ y∈ys,32 ∉ y.cps.toList)->(Str.join blk xs).cps.toList=(Str.join blk ys).cps.toList->xs=ys
  | [],_,h,_,_,_,_=>absurd rfl h
  | _ :: _,[],_,h,_,_,_=>absurd rfl h
  | [x],[y],_,_,_,_,h=>by rw [ah7 (show x.cps.toList=y.cps.toList from h)]
  | [x],y :: z :: r,_,_,hx,_,h=>by
    rw [ah6] at h;have h:x.cps.toList=_:=h;exact absurd (by rw [h];simp) (hx x (by simp))
  | x :: z :: r,[y],_,_,_,hy,h=>by
    rw [ah6] at h;have h:_=y.cps.toList:=h;exact absurd (by rw [← h];simp) (hy y (by simp))
  | x :: x2 :: r,y :: y2 :: q,_,_,hx,hy,h=>by
    rw [ah6,ah6] at h;obtain ⟨e1,e2⟩:=ah5 (hx x (by simp)) (hy y (by simp)) h;rw [ah7 e1,join_one (xs:=x2 :: r) (ys:=y2 :: q) (by simp) (by simp) (fun z hz=>hx z (iw _ hz)) (fun z hz=>hy z (iw _ hz)) e2]
theorem a6F (h0:ws≠[]) (h:∀ w∈ws,bC w∈six):Txt.split (Txt.join " " ws) " " = ws:=by
  have eb:(Str.ofString " ")=blk:=by decide
  have free:∀ w∈ws,32 ∉ w.cps.toList:=fun w hw=>by
    have key:∀ w∈aaI,32 ∉ w.cps.toList:=by decide +kernel
    exact key w (a2E (h w hw))
  rw [eb];have ej:Txt.join blk ws=Str.join blk ws:=StrLaws.glued_eq_join blk ws;rw [ej];refine join_one (fun z=>?_) h0 (StrLaws.split_free _ 32) free ?_
  . have:=PyProof.Rows.split_pos (Str.join blk ws) blk;rw [z] at this;simp at this
  . rw [StrLaws.join_split]
theorem an6:∀ (l:List Str) (j:Nat),(l.map D.str).eraseIdx j=(l.eraseIdx j).map D.str
  | [],_=>rfl
  | _ :: _,0=>rfl
  | a :: r,j+1=>by
    show D.str a :: (r.map D.str).eraseIdx j=D.str a :: (r.eraseIdx j).map D.str;rw [an6 r j]
noncomputable def aEM (G:Gp) (p q:Addr) (xs ys:List D) (G':Gp):Prop:=G' p=some (.lst xs)/\G' q=some (.lst ys)/\∀ r u,r≠p->r≠q->G r=some u->G' r=some u
noncomputable def a1F (ls ws:List Str):Prop:=(ls++ws.map bC).Perm six
theorem acZ {w:Str} (h:w∈six):bC w=w/\bC (Str.ofString "-" ++ w)=w/\bC (Str.ofString "" ++ w)=w:=by
  have key:∀ w∈six,bC w=w/\bC (Str.ofString "-" ++ w)=w/\bC (Str.ofString "" ++ w)=w:=by decide +kernel
  exact key w h
theorem a6G (h:a1F ls ws):(∀ w∈ls,w∈six)/\okN (ws.map bC)/\(∀ w∈ws,bC w∈six)/\ls.length+ws.length=6:=by
  have h0:=h;unfold a1F at h;have nd:(ls++ws.map bC).Nodup:=h.nodup_iff.mpr (by decide +kernel);refine ⟨fun w hw=>h.mem_iff.mp (vg _ hw),fun n hn=>⟨h.mem_iff.mp (jg _ hn),?_⟩,fun w hw=>h.mem_iff.mp (jg _ (jc.mpr ⟨w,hw,rfl⟩)),?_⟩
  . have:=List.nodup_iff_count.mp (xu.mp nd).2.1 n;exact this
  . have:=h.length_eq;rw [iz,au] at this;exact this
theorem ah8:∀ {l:List Str} {j:Nat} (h:j < l.length),(l[j] :: l.eraseIdx j).Perm l
  | _ :: _,0,_ => .refl _
  | a :: r,j+1,h=>by
    have h':j < r.length:=by simpa using h
    show (r[j] :: a :: r.eraseIdx j).Perm (a :: r);exact (List.Perm.swap _ _ _).trans ((ah8 h').cons a)
theorem aeZ {w:Str} (h:a1F ls ws) (hj:j < ls.length) (hw:bC w=ls[j]):a1F (ls.eraseIdx j) (ws++[w]):=by
  unfold a1F at h ⊢;refine List.Perm.trans ?_ h;rw [jx,iu,zq,hw,← List.append_assoc];have e:ls.Perm (ls[j] :: ls.eraseIdx j):=(ah8 hj).symm;refine List.Perm.trans ?_ (e.symm.append_right _);exact (List.perm_append_comm (l₁:=ls.eraseIdx j++ws.map bC) (l₂:=[ls[j]]))
theorem af0 {F:fU} {a l:Addr} {k:Nat} {r2:Option D} (hG:G a=some (.rol (ns.map D.int))) (hl:G l=some (.lst (ls.map D.str))) (hp:G p=some (.lst (ws.map D.str))) (nlp:l≠p) (l0:0 < ls.length) (dl:a1F ls ws) (hk:k < 100)
    (h:∀ G' r2 w j,aEM G l p ((ls.eraseIdx j).map D.str) ((ws++[w]).map D.str) G'->a1F (ls.eraseIdx j) (ws++[w])->F.nx [some (.ref a),some (.ref l),r2,some (.ref p),some (.int (k:Int))] G'):m7 K A ex F [some (.ref a),some (.ref l),r2,some (.ref p),some (.int (k:Int))] G:=by
  have b:=u0;obtain ⟨d1,_,_,d4⟩:=a6G dl;exists m7;rw [show (2:Int)+(k:Int)=((2+k:Nat):Int) by omega];refine zP hG (by omega) ?_;exists qD;rw [mU,aK hp];refine ⟨rfl,fun z hz=>?_⟩;generalize cellAt ns (2+k)=c
  obtain ⟨s,es,ls1,bs⟩:∃ s:Str,yL [D.str "",.str "-"] (c % 2)=some (.str s)/\s.length<=1/\∀ w∈six,bC (s++w)=w:=by
    rcases (show c % 2=0∨c % 2=1 by omega) with e | e
    . rw [e];exact ⟨"",rfl,by decide,fun w hw=>(acZ hw).2.2⟩
    . rw [e];exact ⟨"-",rfl,by decide,fun w hw=>(acZ hw).2.1⟩
  rw [jM eN es];have hl1:=bK (o := .lst [D.str "",.str "-"]) hl hz;have hp1:=bK (o := .lst [D.str "",.str "-"]) hp hz;have old:∀ q u,G q=some u->aM G z (.lst [D.str "",.str "-"]) q=some u:=fun q u e=>bK e hz;generalize aM G z (.lst [D.str "",.str "-"])=G1 at hl1 hp1 old ⊢;rw [mU,aK hl1];refine ⟨rfl,?_⟩;rw [xU (aK hl1),au];have nz:(ls.length:Int)≠0:=by omega
  walk_at "wr"
  obtain ⟨j,ej,hj⟩:∃ j:Nat,c / 2 % (ls.length:Int)=(j:Int)/\j < ls.length:=by
    have h0:=qz (c / 2) nz;have h1:=xq (c / 2) (show (0:Int) < ls.length by omega);exact ⟨(c / 2 % (ls.length:Int)).toNat,by omega,by omega⟩
  rw [ej];have m6:=d1 _ (List.getElem_mem hj)
  have nl:(ls[j]).length<=6:=by
    have key:∀ w∈six,w.length<=6:=by decide +kernel
    exact key _ m6
  refine arW hl1 (d := .str ls[j]) (by rw [jo,dh hj];rfl) ?_;rw [aiT (by omega)];walk_at "wr";rw [rO (show aM G1 l _ p=some (.lst (ws.map D.str)) by rw [aX (Ne.symm nlp)];exact hp1) (by rw [au];omega)];refine h _ _ (s++ls[j]) j ⟨?_,?_,fun r u n1 n2 e=>?_⟩ (aeZ dl hj (bs _ m6))
  . rw [aX nlp,aD,an6]
  . rw [aD,jx];rfl
  . rw [aX n2,aX n1];exact old _ _ e
theorem as5 {a:Addr} (hG:G a=some (.rol (ns.map D.int))) (h:∀ G' p ws,Le G G'->G' p=some (.lst (ws.map D.str))->ws≠[]->okN (ws.map bC)->(∀ w∈ws,bC w∈six)->ws.length<=6->R (.ref p) G'):lB K A [.ref a] G R EX:=by
  have b:=u0;refine ⟨rfl,?_⟩;show tM K A _ _ [some (.ref a),none,none,none,none] G;exists tM;intro l hl;have l1:Le G (aM G l (.lst (six.map D.str))) := .new hl;exists wN;refine zP (k:=1) (l1 _ _ hG) (by decide) ?_;generalize cellAt ns 1=c;exists wM;intro p hp;have nlp:l≠p:=fun z=>by subst z;rw [show aM G l _ l=_ from aD] at hp;cases hp
  have hp0:G p=none:=l1.free hp;have na:a≠l:=jN hG hl;have na2:a≠p:=jN hG hp0;have c0:=qz c (show (6:Int)≠0 by decide);have c1:=xq c (show (0:Int) < 6 by decide);exists wL;refine a5N (fun k ρ G'=>∃ r2 r4 ls ws,ρ=[some (.ref a),some (.ref l),r2,some (.ref p),r4]/\aEM G l p (ls.map D.str) (ws.map D.str) G'/\a1F ls ws/\ws.length=k) ⟨_,_,six,[],rfl,⟨bK aD hp,aD,fun r u n1 n2 e=>bK (bK e hl) hp⟩,by unfold a1F;simp,rfl⟩ (fun k ρ G' hk ⟨r2,r4,ls,ws,e1,s,dl,e4⟩=>?_) fun ρ G' ⟨r2,r4,ls,ws,e1,s,dl,e4⟩=>?_
  . subst e1;have d4:=(a6G dl).2.2.2;walk_at "wr";refine af0 (s.2.2 _ _ na na2 hG) s.1 s.2.1 nlp (by omega) dl (by omega) fun G2 r2 w j s2 dl2=>?_;refine ⟨_,_,_,_,rfl,⟨s2.1,s2.2.1,fun r u n1 n2 e=>s2.2.2 r u n1 n2 (s.2.2 r u n1 n2 e)⟩,dl2,?_⟩;rw [iz];show ws.length+1=k+1;omega
  . subst e1;obtain ⟨_,d2,d3,d4⟩:=a6G dl;exists wK;refine cP.here (h G' p ws (fun r u e=>s.2.2 r u (jN e hl) (jN e hp0) e) s.2.1 (fun z=>?_) d2 d3 (by omega));subst z;simp at e4;omega
theorem aEN {x:Pc}:k3D (k3F ws x) = .tup [.tup (ws.map fun w => .int (wY (nX x) w)),.tup [.int x.a,.int x.p],.int x.l]:=by
  unfold k3D k3F nM;rw [jm];rfl
theorem ad0 {f q:Addr} {ws:List Str} (hf:G f=some (.clo bU (.ref q))) (hq:G q=some (.lst (ws.map wX))) (h6:∀ w∈ws,bC w∈six) (hw:ws.length<=20000) {C:List D->Gp->Prop}:∀ (rest done:List Pc) (G':Gp),Le G G'->(∀ G2,Le G G2->C ((done++rest).map fun x=>k3D (k3F ws x)) G2)->zF (iZ K A) (.ref f) C (rest.map pD) (done.map fun x=>k3D (k3F ws x)) G'
  | [],done,G',l,h=>by
    rw [vq] at h;exact h G' l
  | x :: rest,done,G',l,h=>by
    show iZ K A [.ref f,pD x] G' _ _;refine ⟨rfl,?_⟩;show kZ K A _ [some (.ref f),some (pD x)] G' _;exists kZ;refine aEL rfl (l _ _ hf) (l _ _ hq) h6 hw (fun Q z=>z) fun G2 l2=>?_
    have e:done.map (fun x=>k3D (k3F ws x))++[.tup [.tup (ws.map fun w => .int (wY (nX x) w)),.tup [.int x.a,.int x.p],.int x.l]]=(done++[x]).map fun x=>k3D (k3F ws x):=by
      rw [jx,← aEN];rfl
    rw [e];refine ad0 hf hq h6 hw rest (done++[x]) G2 (l.trans l2) fun G3 l3=>?_;rw [List.append_assoc];exact h G3 l3
noncomputable abbrev an7:GO := .tab cN.qual cN.pos
theorem aiZ {l:Addr} (hl:bI G l=some (ps.map pD)) (hf:G f=some (.clo bU (.ref q))) (hq:G q=some (.lst (ws.map wX))) (hT:G A.dR=some an7) (h6:∀ w∈ws,bC w∈six) (hw:ws.length<=20000) (pl:ps.length<=60) (un:Unl ps)
    (h:∀ G' r qs,Le G G'->G r=none->G' r=some (.lst (qs.map pD))->qs.Perm ps->Tn ws qs->R (.ref r) G'):tL K A [.ref l,.ref f] G R EX:=by
  refine ⟨rfl,?_⟩;refine ⟨l,ps.map pD,.ref f,rfl,hl,by rw [au];omega,rfl,hT,?_⟩;refine ad0 hf hq h6 hw ps [] G (.refl G) fun G2 l2=>?_;have nd:=aeY (ws:=ws) un
  have gl:∀ i x,(ps.map (k3F ws))[i]?=some x->i < ps.length/\∃ y,ps[i]?=some y/\x=k3F ws y/\(ps.map (fL ws)).getD i []=fL ws y:=fun i x e=>by
    rw [jo] at e;obtain ⟨y,e1,e2⟩:=lg.mp e;refine ⟨(cj.mp e1).1,y,e1,e2.symm,?_⟩;simp [ud,e1]
  refine ⟨ps.map (k3F ws),rk (ps.map (fL ws)),by rw [List.nil_append,jm];rfl,fun i j a b ea eb=>?_,fun i j hi hj e=>?_,fun qa P u r hr=>?_⟩
  . obtain ⟨hi,x,_,rfl,gx⟩:=gl i a ea;obtain ⟨hj,y,_,rfl,gy⟩:=gl j b eb;rw [azF,← gx,← gy];exact an5 nd (by rw [au];exact hi) (by rw [au];exact hj)
  . rw [au] at hi hj;exact an4 nd (by rw [au];exact hi) (by rw [au];exact hj) e
  . rw [au] at P u;obtain ⟨qs,e,p1,p2⟩:=aiY un P u;rw [e];exact h _ r qs (l2.trans (.new hr)) (l2.free hr) aD p1 p2
theorem azJ {x y:List Int} {k:Nat} {v:Int} (e:x.take k=y.take k) (hx:x[k]?=some u) (hy:y[k]?=some v) (n:u≠v):HT.lexLt x y=decide (u < v):=by
  obtain ⟨lx,ex⟩:=cj.mp hx;obtain ⟨ly,ey⟩:=cj.mp hy;have e1:x=x.take k++u :: x.drop (k+1):=by rw [← ex,← wj lx,za]
  have e2:y=x.take k++v :: y.drop (k+1):=by rw [e,← ey,← wj ly,za]
  rw [e1];generalize hz:x.take k=z at *;rw [e2,a3S rfl,if_pos rfl,HT.dZ,if_neg n]
theorem ints_get {xs:List Int} {k:Nat} (h:xs[k]?=some u):yL (xs.map D.int) (k:Int)=some (.int u):=by
  rw [zH,jo,h];rfl
theorem an8 {x:Pc}:(ws.map fun w=>D.int (wY (nX x) w))++[.int x.a,.int x.p,.int x.l]=(fL ws x).map D.int:=by
  unfold fL nM;rw [jx,jm];rfl
theorem as6 {x y:Pc} (hq:G q=some (.lst (ws.map D.str))) (h6:∀ w∈ws,bC w∈six) (hl:ws.length<=6) (h:∀ G',Le G G'->R (.bl (HT.lexLt (fL ws x) (fL ws y))) G'):lC K A [pD x,pD y,.ref q] G R EX:=by
  have b:=u0;refine ⟨rfl,?_⟩;show tO K A _ _ [some (pD x),some (pD y),some (.ref q),none,none,none] G;exists tO;refine a8V hq h6 (by omega) fun G1 r1 l1 hr1=>?_;walk_at "wr";intro p1 hp1;rw [au3 (bK hr1 hp1) aD (by rw [au];show ws.length+3<=_;omega)];intro f1 hf1;rw [an8 (ws:=ws) (x:=x)];have l2:Le G1 (aM (aM G1 p1 (.lst [.int x.a,.int x.p,.int x.l])) f1 (.lst ((fL ws x).map D.int))):=(Le.new hp1).trans (.new hf1);have h1:aM (aM G1 p1 (.lst [.int x.a,.int x.p,.int x.l])) f1 (.lst ((fL ws x).map D.int)) f1=some (.lst ((fL ws x).map D.int)):=aD;generalize aM (aM G1 p1 (.lst [.int x.a,.int x.p,.int x.l])) f1 (.lst ((fL ws x).map D.int))=G2 at l2 h1 ⊢;exists wR;refine a8V (l2 _ _ (l1 _ _ hq)) h6 (by omega) fun G3 r2 l3 hr2=>?_;walk_at "wr";intro p2 hp2;rw [au3 (bK hr2 hp2) aD (by rw [au];show ws.length+3<=_;omega)];intro f2 hf2;rw [an8 (ws:=ws) (x:=y)];have l4:Le G3 (aM (aM G3 p2 (.lst [.int y.a,.int y.p,.int y.l])) f2 (.lst ((fL ws y).map D.int))):=(Le.new hp2).trans (.new hf2);have h2:aM (aM G3 p2 (.lst [.int y.a,.int y.p,.int y.l])) f2 (.lst ((fL ws y).map D.int)) f2=some (.lst ((fL ws y).map D.int)):=aD;generalize aM (aM G3 p2 (.lst [.int y.a,.int y.p,.int y.l])) f2 (.lst ((fL ws y).map D.int))=G4 at l4 h2 ⊢;have h1:=l4 _ _ (l3 _ _ h1);have fin:=h G4 (((l1.trans l2).trans l3).trans l4);have aIG:(fL ws x).length=(fL ws y).length:=by unfold fL;rw [iz,iz,aeX (x:=x) (y:=y)];rfl
  have lx9:(fL ws x).length<=9:=by unfold fL nM;rw [iz,au];show ws.length+3<=9;omega
  generalize fL ws x=xs at *;generalize fL ws y=ys at *;exists wQ;rw [xU (aK h1),au];walk_at "wr";refine a5N (fun k ρ G'=>∃ r5,ρ=[some (pD x),some (pD y),some (.ref q),some (.ref f1),some (.ref f2),r5]/\xs.take k=ys.take k/\Le G4 G') ⟨_,rfl,rfl,.refl _⟩ (fun k ρ G' hk ⟨r5,e1,e2,l⟩=>?_) fun ρ G' ⟨r5,e1,e2,l⟩=>?_
  . subst e1;obtain ⟨u,hu⟩:∃ u,xs[k]?=some u:=⟨_,dh (by omega)⟩;obtain ⟨v,hv⟩:∃ v,ys[k]?=some v:=⟨_,dh (by omega)⟩;exists uY;rw [jM (aK (l _ _ h1)) (ints_get hu),jM (aK (l _ _ h2)) (ints_get hv)];walk_at "wr";by_cases c:u=v
    . rw [if_neg (by simp [c])];refine ⟨_,rfl,?_,l⟩;rw [uh,uh,e2,hu,hv,c]
    . rw [if_pos (by simpa using c)];rw [jM (aK (l _ _ h1)) (ints_get hu),jM (aK (l _ _ h2)) (ints_get hv)];walk_at "wr";rw [← azJ e2 hu hv c];exact ⟨_,l,fin⟩
  . subst e1;exists wO;rw [show ((xs.length:Int)).toNat=xs.length by omega,qb,aIG,qb] at e2;subst e2;rw [wZ] at fin;exact ⟨_,l,fin⟩
theorem aj0 {z:D} (h:G f=some (.lst ds)) (hj:j<=ds.length) (hl:ds.length < sizeLine) (k:R .non (aM G f (.lst (ds.take j++z :: ds.drop j)))):rM (.ref f) [.int (j:Int),z] G R:=by
  unfold L2.rM L2.a8B;simp only [h];exact ⟨j,rfl,hj,hl,k⟩
variable {r4:Option D}
theorem af2 {F:fU} {x:Pc} (hf:G f=some (.lst (qs.map pD))) (hq:G q=some (.lst (ws.map D.str))) (h6:∀ w∈ws,bC w∈six) (hl:ws.length<=6) (ql:qs.length<=100) (t:Tn ws qs) (nx:∀ y∈qs,fL ws x≠fL ws y)
    (h:∀ G' r4 zs,HS G f (zs.map pD) G'->Tn ws zs->zs.Perm (qs++[x])->F.nx [r0,some (.ref q),some (.ref f),some (pD x),r4] G'):jR K A ex F [r0,some (.ref q),some (.ref f),some (pD x),r4] G:=by
  have b:=u0;exists jR;rw [xU (aK hf),au];simp only [p8,au0,arU];refine ⟨fun m ρ G'=>m<=qs.length/\ρ=[r0,some (.ref q),some (.ref f),some (pD x),some (.int (m:Int))]/\(∀ i y,m<=i->qs[i]?=some y->HT.lexLt (fL ws x) (fL ws y)=true)/\Le G G',⟨qs.length,bw _,rfl,fun i y hi hy=>?_,.refl _⟩,fun m ρ G' hw=>?_⟩
  . rw [List.getElem?_eq_none hi] at hy;cases hy
  obtain ⟨hm,rfl,hb,l⟩:=hw
  have go:(∀ y,0 < m->qs[m - 1]?=some y->HT.lexLt (fL ws x) (fL ws y)=false)->∀ G2,Le G G2->gZ K A ex F [r0,some (.ref q),some (.ref f),some (pD x),some (.int (m:Int))] G2:=fun ha G2 l2=>by
    obtain ⟨t2,p2⟩:=azI t hm nx hb ha;exists gZ;rw [mU,aK (l2 _ _ hf)];refine ⟨rfl,aj0 (l2 _ _ hf) (by rw [au];exact hm) (by rw [au];omega) ?_⟩
    have e:(qs.map pD).take m++pD x :: (qs.map pD).drop m=(qs.take m++x :: qs.drop m).map pD:=by
      rw [jx,iu,List.map_take,List.map_drop]
    rw [e];exact h _ _ _ ⟨aD,fun r u n e=>by rw [aX n];exact l2 _ _ e⟩ t2 p2
  walk_at "wr";by_cases c:0 < m
  . rw [if_pos (decide_eq_true (by omega))];obtain ⟨y,hy⟩:∃ y,qs[m - 1]?=some y:=⟨_,dh (by omega)⟩
    have ey:yL (qs.map pD) ((m:Int) - 1)=some (pD y):=by
      rw [show (m:Int) - 1=((m - 1:Nat):Int) by omega,zH,jo,hy];rfl
    rw [jM (aK (l _ _ hf)) ey];walk_at "wr";refine as6 (l _ _ hq) h6 hl fun G2 l2=>?_;walk_at "wr";cases e:HT.lexLt (fL ws x) (fL ws y) with
    | true =>
      exists mJ;refine ⟨m - 1,by omega,by omega,by rw [show (m:Int) - 1=((m - 1:Nat):Int) by omega],fun i z hi hz=>?_,l.trans l2⟩;by_cases ci:i=m - 1
      . rw [ci,hy] at hz;cases hz;exact e
      . exact hb i z (by omega) hz
    | false =>
      walk_at "wr";exact go (fun z _ hz=>by rw [hy] at hz;cases hz;exact e) G2 (l.trans l2)
  . rw [if_neg (by simp;omega)];walk_at "wr";exact go (fun z hz=>absurd hz c) G' l
theorem an9 (hp:G p=some (.lst (ps.map pD))) (hq:G q=some (.lst (ws.map D.str))) (h6:∀ w∈ws,bC w∈six) (hl:ws.length<=6) (pl:ps.length<=60) (un:Unl ps) (h:∀ G' r qs,Le G G'->G r=none->G' r=some (.lst (qs.map pD))->qs.Perm ps->Tn ws qs->R (.ref r) G'):j6 K A [.ref p,.ref q] G R EX:=by
  have b:=u0;have nd:=aeY (ws:=ws) un;refine ⟨rfl,?_⟩;show qU K A _ _ [some (.ref p),some (.ref q),none,none,none] G;exists qU;intro f hf;have np:p≠f:=jN hp hf;have nq:q≠f:=jN hq hf;exists v7;rw [rN (aK (bK hp hf))];refine wB (fun k ρ G'=>∃ r3 r4 qs,ρ=[some (.ref p),some (.ref q),some (.ref f),r3,r4]/\HS G f (qs.map pD) G'/\qs.Perm (ps.take k)/\Tn ws qs) ⟨_,_,[],rfl,HS.mk0,by simp,.nil⟩ (fun k ρ G' ⟨_,_,_,_,s,_⟩=>aK (s.2 _ _ np hp)) (fun k d ρ G' hk ⟨_,_,qs,e1,s,pm,t⟩=>?_) fun ρ G' ⟨_,_,qs,e1,s,pm,t⟩=>?_
  . subst e1;rw [jo] at hk;obtain ⟨x,hx,rfl⟩:=lg.mp hk;obtain ⟨hlt,ex⟩:=cj.mp hx;have et:ps.take (k+1)=ps.take k++[x]:=by rw [uh,hx];rfl
    walk_at "wr";refine af2 s.1 (s.2 _ _ nq hq) h6 hl ?_ t (fun y hy=>?_) fun G2 r4 zs s2 t2 p2=>⟨_,_,zs,rfl,s.trans s2,?_,t2⟩
    . rw [pm.length_eq,ou];omega
    . intro e;have hy:=pm.mem_iff.mp hy;obtain ⟨i,hi⟩:=vf.mp hy;rw [List.getElem?_take] at hi;split at hi
      . rename_i ik;obtain ⟨hi1,hi2⟩:=cj.mp hi;have key:=qw.mp nd i k (by rw [au];exact hi1) (by rw [au];exact hlt) ik;rw [List.getElem_map,List.getElem_map,hi2,ex] at key;exact key e.symm
      . cases hi
    . rw [et];exact p2.trans (pm.append_right _)
  . subst e1;rw [au,qb] at pm;exists uZ;exact cP.here (h _ _ qs (s.leG hf) hf s.1 pm t)
noncomputable abbrev nkP (x:Pc):NK:=([x.a,x.p],x.l)
noncomputable def GK (G:Gp) (p:Addr) (ks:List NK):Prop:=G p=some (.nst ks)∨(G p=some (.lX true [])/\ks=[])
theorem azK {k:NK} (h:GK G p ks) (z:R (.bl (!decide (k∈ks))) G):a1Y (.tup [.tup (k.1.map D.int),.int k.2]) (.ref p) G R:=by
  unfold L2.a1Y;rcases h with h | ⟨h,rfl⟩
  . simp only [h];exact ⟨k,rfl,z⟩
  . simp only [h];exact ⟨k,rfl,by simpa using z⟩
theorem azL {F:fU} {k:NK} (h:GK G p ks) (n:k ∉ ks) (hl:ks.length < 1000) (z:F.nx ρ (aM G p (.nst (ks++[k])))):aiJ (.ref p) (.tup [.tup (k.1.map D.int),.int k.2]) F ρ G:=⟨k,ks,rfl,h,n,hl,z⟩
theorem azM {F:fU} {to ti tv:cF}:a9Z to ti tv F ρ G=tv ρ G fun v G1=>to ρ G1 fun x G2=>ti ρ G2 fun y G3=>aiJ x y F ρ G3:=rfl
noncomputable def Dys (kvs:List (DK×D)):Prop:=∀ kv∈kvs,∃ d c:Int,kv.2 = .tup [.int d,.int c]
theorem ah9 {k:DK}:∀ {kvs:List (DK×D)} {v:D},Dys kvs->gR kvs k=some v->∃ d c:Int,v = .tup [.int d,.int c]
  | [],_,_,h=>by cases h
  | p :: r,v,hd,h=>by
    unfold gR at h;split at h
    . cases h;exact hd p (by simp)
    . exact ah9 (fun kv hkv=>hd kv (iw _ hkv)) h
theorem as8 {kvs:List (DK×D)} {k:DK} {d:Int} (h:Dys kvs) (n:gR kvs k=none):Dys (a5A kvs k (.tup [.int d,.int c]))/\(a5A kvs k (.tup [.int d,.int c])).length=kvs.length+1:=by
  unfold a5A;rw [n];refine ⟨fun kv hkv=>?_,by simp⟩;have hkv:kv∈kvs++[(k,D.tup [.int d,.int c])]:=hkv;rcases qx.mp hkv with z | z
  . exact h kv z
  . rw [kj] at z;subst z;exact ⟨d,c,rfl⟩
structure Drw (G0:Gp) (f kn dy:Addr) (n m:Nat) (ps:List Pc) (G:Gp):Prop where
  hf:G f=some (.lst (ps.map pD))
  hk:GK G kn (ps.map nkP)
  hd:∃ kvs,G dy=some (.lX false kvs)/\Dys kvs/\kvs.length<=m
  un:Unl ps
  ln:ps.length<=n
  ms:∀ x∈ps,1<=x.m
  el:∀ r u,r≠f->r≠kn->r≠dy->G0 r=some u->G r=some u
theorem ad1 {x:Pc} (h:Unl ps) (n:nkP x ∉ ps.map nkP):Unl (ps++[x]):=by
  unfold Unl at h ⊢;rw [jx,xu];refine ⟨h,by simp,fun y hy z hz e=>?_⟩;rw [iu,zq,kj] at hz;subst hz;subst e;obtain ⟨w,hw,e⟩:=jc.mp hy;refine n (jc.mpr ⟨w,hw,?_⟩);unfold ky3 at e;simp only [List.cons.injEq,and_true] at e;show (([w.a,w.p],w.l):NK)=([x.a,x.p],x.l);rw [e.1,e.2.1,e.2.2]
section
variable {F:fU} {ex:aP->aY} {G0:Gp} {f kn dy:Addr} {n m:Nat} {ps:List Pc} {r0 r1 r2 r6:Option D}
noncomputable abbrev a1G (r0 r1 r2:Option D) (f kn dy:Addr) (r6 r7 r8 r9 r10 r11 r12:Option D):aP:=[r0,r1,r2,some (.ref f),some (.ref kn),some (.ref dy),r6,r7,r8,r9,r10,r11,r12]
variable {p:Int}
theorem aEO {g d:Int} (g1:1<=g) (s:Drw G0 f kn dy n m ps G) (fk:f≠kn) (fd:f≠dy) (kd:kn≠dy) (hn:n<=100) (h:∀ G' qs,Drw G0 f kn dy (n+1) m qs G'->F.nx (a1G r0 r1 r2 f kn dy r6 (some (.tup [.int a,.int p])) (some (.int l)) r9 (some (.int d)) (some (.int c)) (some (.int g))) G') :
    dJ K A ex F (a1G r0 r1 r2 f kn dy r6 (some (.tup [.int a,.int p])) (some (.int l)) r9 (some (.int d)) (some (.int c)) (some (.int g))) G:=by
  have b:=u0;have ln:=s.ln;exists dJ;refine azK (k:=nkP ⟨a,p,l,g,d,c⟩) s.hk ?_;walk_at "wr";by_cases cz:nkP ⟨a,p,l,g,d,c⟩∈ps.map nkP
  . rw [if_neg (by simp [cz])];exact h _ ps ⟨s.hf,s.hk,s.hd,s.un,by omega,s.ms,s.el⟩
  . rw [if_pos (by simp [cz])];exists azM;refine azL (k:=nkP ⟨a,p,l,g,d,c⟩) s.hk cz (by rw [au];omega) ?_;exists j4;have hf:aM G kn (.nst (ps.map nkP++[nkP ⟨a,p,l,g,d,c⟩])) f=some (.lst (ps.map pD)):=by rw [aX fk];exact s.hf
    rw [mU,aK hf];refine ⟨rfl,?_⟩;rw [rO hf (by rw [au];omega)];obtain ⟨kvs,e1,e2,e3⟩:=s.hd;refine h _ (ps++[⟨a,p,l,g,d,c⟩]) ⟨?_,.inl ?_,⟨kvs,?_,e2,e3⟩,ad1 s.un cz,by rw [iz];show ps.length+1<=_;omega,fun x hx=>?_,fun r u n1 n2 n3 e=>?_⟩
    . rw [aD,jx];rfl
    . rw [aX (Ne.symm fk),aD,jx];rfl
    . rw [aX (Ne.symm fd),aX (Ne.symm kd)];exact e1
    . rcases qx.mp hx with hx | hx
      . exact s.ms x hx
      . rw [kj.mp hx];exact g1
    . rw [aX n1,aX n2];exact s.el r u n1 n2 n3 e
theorem au9 {d o:Int} (s:Drw G0 f kn dy n m ps G) (fk:f≠kn) (fd:f≠dy) (kd:kn≠dy) (hn:n<=100) (h:∀ G' qs r7 r8 r9 r10 r11 r12,Drw G0 f kn dy (n+1) m qs G'->F.nx (a1G r0 r1 r2 f kn dy r6 r7 r8 r9 r10 r11 r12) G') :
    fX K A ex F (a1G r0 r1 r2 f kn dy r6 (some (.tup [.int a,.int p])) (some (.int l)) (some (.int o)) (some (.int d)) (some (.int c)) r12) G:=by
  have fin:∀ g:Int,1<=g->dJ K A ex F (a1G r0 r1 r2 f kn dy r6 (some (.tup [.int a,.int p])) (some (.int l)) (some (.int o)) (some (.int d)) (some (.int c)) (some (.int g))) G:=fun g g1=>aEO g1 s fk fd kd hn fun G' qs s'=>h G' qs _ _ _ _ _ _ s';exists fX,m9;have b1:=qz (o / 90) (show (6:Int)≠0 by decide);have b2:=qz (o / 2700) (show (1000000:Int)≠0 by decide);split
  . exact fin _ (by omega)
  . exact fin _ (by omega)
theorem aIH {d o:Int} (s:Drw G0 f kn dy n m ps G) (fk:f≠kn) (fd:f≠dy) (kd:kn≠dy) (hn:n<=100) (hm:m<=100) (h:∀ G' qs r7 r8 r9 r10 r11 r12,Drw G0 f kn dy (n+1) (m+1) qs G'->F.nx (a1G r0 r1 r2 f kn dy r6 r7 r8 r9 r10 r11 r12) G') :
    gU K A ex F (a1G r0 r1 r2 f kn dy r6 (some (.tup [.int a,.int p])) (some (.int l)) (some (.int o)) (some (.int d)) (some (.int c)) r12) G:=by
  have b:=u0;obtain ⟨kvs,e1,e2,e3⟩:=s.hd;exists gU,acE e1;unfold L2.abZ;dsimp only;rw [acF e1 (k := .inl (.inl l)) rfl rfl];refine ⟨rfl,by omega,?_⟩;cases ev:gR kvs (.inl (.inl l)) with
  | some v =>
    obtain ⟨d',c',rfl⟩:=ah9 e2 ev;dsimp only;rw [aa8 rfl];walk_at "wr";exact au9 ⟨s.hf,s.hk,⟨kvs,e1,e2,by omega⟩,s.un,s.ln,s.ms,s.el⟩ fk fd kd hn h
  | none =>
    obtain ⟨p1,p2⟩:=as8 (d:=d) (c:=c) e2 ev;dsimp only;rw [aa8 rfl];walk_at "wr";refine au9 ⟨?_,?_,⟨_,aD,p1,by omega⟩,s.un,s.ln,s.ms,fun r u n1 n2 n3 e=>?_⟩ fk fd kd hn h
    . rw [aX fd];exact s.hf
    . exact s.hk.elim (fun z => .inl (by rw [aX kd];exact z)) fun z => .inr ⟨by rw [aX kd];exact z.1,z.2⟩
    . rw [aX n3];exact s.el r u n1 n2 n3 e
theorem Drw.new {G':Gp} {o:GO} (s:Drw G0 f kn dy n m ps G) (hq:G q=none):Drw G0 f kn dy n m ps (aM G q o):=by
  obtain ⟨kvs,e1,e2,e3⟩:=s.hd;exact ⟨bK s.hf hq,s.hk.elim (fun z => .inl (bK z hq)) (fun z => .inr ⟨bK z.1 hq,z.2⟩),⟨kvs,bK e1 hq,e2,e3⟩,s.un,s.ln,s.ms,fun r u n1 n2 n3 e=>bK (s.el r u n1 n2 n3 e) hq⟩
theorem aEP {d o:Int} (d0:0<=d) (s:Drw G0 f kn dy n m ps G) (fk:f≠kn) (fd:f≠dy) (kd:kn≠dy) (hn:n<=100) (hm:m<=100) (h:∀ G' qs r7 r8 r9 r10 r11 r12,Drw G0 f kn dy (n+1) (m+1) qs G'->F.nx (a1G r0 r1 r2 f kn dy r6 r7 r8 r9 r10 r11 r12) G') :
    gW K A ex F (a1G r0 r1 r2 f kn dy r6 (some (.tup [.int a,.int p])) (some (.int l)) (some (.int o)) (some (.int d)) r11 r12) G:=by
  have nz:d+1≠0:=by omega
  exists gW;intro q hq
  obtain ⟨v,ev⟩:∃ v:Int,yL [D.int (o / 5 % 3),.int (o / 900000)] (if (o / 15 % 6 == 1)=true then 1 else 0)=some (.int v):=by
    cases (o / 15 % 6 == 1) with
    | true=>exact ⟨_,rfl⟩
    | false=>exact ⟨_,rfl⟩
  rw [jM eN ev];walk_at "wr";exact aIH (s.new (G':=G) hq) fk fd kd hn hm h
theorem aEQ {k:Nat} (hG:G b0=some (.rol (ns.map D.int))) (hk:k < 100) (s:Drw G0 f kn dy n m ps G) (fk:f≠kn) (fd:f≠dy) (kd:kn≠dy) (hn:n<=100) (hm:m<=100) (h:∀ G' qs r7 r8 r9 r10 r11 r12,Drw G0 f kn dy (n+1) (m+1) qs G'->F.nx (a1G (some (.ref b0)) r1 r2 f kn dy (some (.int (k:Int))) r7 r8 r9 r10 r11 r12) G') :
    gY K A ex F (a1G (some (.ref b0)) r1 r2 f kn dy (some (.int (k:Int))) (some (.tup [.int a,.int p])) (some (.int l)) r9 r10 r11 r12) G:=by
  exists gY;rw [show (9:Int)+2 * (k:Int)=((9+2 * k:Nat):Int) by omega];refine zP hG (by omega) ?_;generalize cellAt ns (9+2 * k)=o;exists oW,oV;split
  . exact aEP (qz _ (by decide)) s fk fd kd hn hm h
  . exact aEP (qz _ (by decide)) s fk fd kd hn hm h
theorem as9 {k:Nat} {r7 r8:Option D} (hG:G b0=some (.rol (ns.map D.int))) (hk:k < 100) (s:Drw G0 f kn dy n m ps G) (fk:f≠kn) (fd:f≠dy) (kd:kn≠dy) (hn:n<=100) (hm:m<=100) (h:∀ G' qs r1 r7 r8 r9 r10 r11 r12,Drw G0 f kn dy (n+1) (m+1) qs G'->F.nx (a1G (some (.ref b0)) r1 r2 f kn dy (some (.int (k:Int))) r7 r8 r9 r10 r11 r12) G') :
    jP K A ex F (a1G (some (.ref b0)) r1 r2 f kn dy (some (.int (k:Int))) r7 r8 r9 r10 r11 r12) G:=by
  exists jP;rw [show (8:Int)+2 * (k:Int)=((8+2 * k:Nat):Int) by omega];refine zP hG (by omega) ?_;generalize cellAt ns (8+2 * k)=o;exists oZ,oY,oX;split
  . exists jG;exact aEQ hG hk s fk fd kd hn hm fun G' qs r7 r8 r9 r10 r11 r12=>h G' qs _ r7 r8 r9 r10 r11 r12
  . exact aEQ hG hk s fk fd kd hn hm fun G' qs r7 r8 r9 r10 r11 r12=>h G' qs _ r7 r8 r9 r10 r11 r12
end
theorem a2S {F:fU} {mn:Int} (hG:G b0=some (.rol (ns.map D.int))) (m0:0<=mn) (m1:mn<=40) (h:∀ G' p ps,Le G G'->G' p=some (.lst (ps.map pD))->ps.length<=40->Unl ps->(∀ x∈ps,1<=x.m)->F.rt (.ref p) G') :
    lZ K A ex F [some (.ref b0),r1,some (.int mn),none,none,none,none,none,none,none,none,none,none] G:=by
  have b:=u0;exists lZ;intro f hf;exists uV;intro kn hkn;exists uU;intro dy hdy;exists uT;have fk:f≠kn:=fun z=>by subst z;rw [aD] at hkn;cases hkn
  have hk0:G kn=none:=by rw [aX (Ne.symm fk)] at hkn;exact hkn
  have kd:kn≠dy:=fun z=>by subst z;rw [aD] at hdy;cases hdy
  have fd:f≠dy:=fun z=>by subst z;rw [aX fk,aD] at hdy;cases hdy
  have hd0:G dy=none:=by rw [aX (Ne.symm kd),aX (Ne.symm fd)] at hdy;exact hdy
  have el:∀ r u,G r=some u->r≠f/\r≠kn/\r≠dy:=fun r u e=>⟨jN e hf,jN e hk0,jN e hd0⟩;refine a5N (fun k ρ G'=>∃ r1 r6 r7 r8 r9 r10 r11 r12 ps,ρ=a1G (some (.ref b0)) r1 (some (.int mn)) f kn dy r6 r7 r8 r9 r10 r11 r12/\Drw G f kn dy k k ps G') ⟨_,_,_,_,_,_,_,_,[],rfl,?_⟩ (fun k ρ G' hk ⟨_,_,_,_,_,_,_,_,ps,e1,s⟩=>?_) fun ρ G' ⟨_,_,_,_,_,_,_,_,ps,e1,s⟩=>?_
  . refine ⟨?_,.inr ⟨?_,rfl⟩,⟨[],aD,(fun kv h=>nomatch h),bw _⟩,a0a,bw _,(fun x hx=>nomatch hx),fun r u n1 n2 n3 e=>?_⟩
    . rw [aX fd,aX fk];exact aD
    . rw [aX kd];exact aD
    . rw [aX n3,aX n2,aX n1];exact e
  . subst e1;walk_at "wr";refine as9 (s.el _ _ (el _ _ hG).1 (el _ _ hG).2.1 (el _ _ hG).2.2 hG) (by omega) s fk fd kd (by omega) (by omega) fun G2 qs r1 r7 r8 r9 r10 r11 r12 s2=>⟨_,_,_,_,_,_,_,_,qs,rfl,s2⟩
  . subst e1;have ln:=s.ln;exists uR;exact h G' f ps (fun r u e=>s.el r u (el r u e).1 (el r u e).2.1 (el r u e).2.2 e) s.hf (by omega) s.un s.ms
theorem anA (hG:G b0=some (.rol (ns.map D.int))) (h:∀ G' p ps,Le G G'->G' p=some (.lst (ps.map pD))->ps.length<=40->Unl ps->(∀ x∈ps,1<=x.m)->R (.ref p) G'):j5 K A [.ref b0] G R EX:=by
  refine ⟨rfl,?_⟩;show qT K A _ _ [some (.ref b0),none,none,none,none,none,none,none,none,none,none,none,none] G;exists qT;refine zP (k:=0) hG (by decide) ?_;generalize cellAt ns 0=c;exists uX,uW;have b1:=qz c (show (9:Int)≠0 by decide);have b2:=xq c (show (0:Int) < 9 by decide);have b3:=qz (c / 72) (show (41:Int)≠0 by decide);have b4:=xq (c / 72) (show (0:Int) < 41 by decide);split
  . exact a2S hG (by omega) (by omega) fun G' p ps l e1 e2 e3 e4=>cP.here (h G' p ps l e1 e2 e3 e4)
  . exact a2S hG (by omega) (by omega) fun G' p ps l e1 e2 e3 e4=>cP.here (h G' p ps l e1 e2 e3 e4)
theorem asA (h:bI G q=some (ys.map D.str)) (hl:(ys.map (·.length)).sum+ys.length * z.length<=16777216) (k:R (.str (Txt.join z ys)) G):a4Z (.str z) [.ref q] G R:=by
  have e:pX (ys.map D.str)=some ys:=by
    clear h hl k
    induction ys with
    | nil=>rfl
    | cons y ys ih=>show (pX (ys.map D.str)).map (y :: ·)=_;rw [ih];rfl
  show (match (bI G q).bind pX with | some ys=>_ | none=>_);rw [h];show (match pX (ys.map D.str) with | some ys=>_ | none=>_);rw [e];exact ⟨hl,k⟩
theorem aj1:Txt.join z (y :: ys)=ys.foldl (fun t q=>t++z++q) y:=by
  have key:∀ (ys:List Str) (y:Str),(⟨ys.foldl (fun acc p=>acc++z.cps++p.cps) y.cps⟩:Str)=ys.foldl (fun t q=>t++z++q) y:=by
    intro ys
    induction ys with
    | nil=>intro y;rfl
    | cons q ys ih=>intro y;exact ih (y++z++q)
  exact key ys y
theorem ad2 {z:Str}:∀ (ys:List Str) (t:Str),(∀ y∈ys,y.length<=60)->(ys.foldl (fun t q=>t++z++q) t).length<=t.length+ys.length * (z.length+60)
  | [],t,_=>by simp
  | y :: r,t,h=>by
    have a:=ad2 (z:=z) r (t++z++y) fun q hq=>h q (by simp [hq]);have b:=h y (by simp);rw [List.foldl_cons,lq,Nat.add_mul,Nat.one_mul];rw [len_app,len_app] at a;omega
theorem anB (h:ys.length<=20) (h2:∀ y∈ys,y.length<=60) (hz:z.length<=2):(Txt.join z ys).length<=3000:=by
  cases ys with
  | nil=>exact oh _
  | cons y r =>
    rw [aj1];have a:=ad2 (z:=z) r y fun q hq=>h2 q (by simp [hq]);have b:=h2 y (by simp);have c:r.length * (z.length+60)<=20 * 62:=Nat.mul_le_mul (by rw [lq] at h;omega) (by omega);omega
theorem ahA:∀ ys:List Str,(∀ y∈ys,y.length<=60)->(ys.map (·.length)).sum<=ys.length * 60
  | [],_=>by simp
  | y :: r,h=>by
    have a:=ahA r fun q hq=>h q (by simp [hq]);have b:=h y (by simp);rw [iu,List.sum_cons,lq];omega
theorem aER (h:G q=some (.lst (ys.map D.str))) (l6:ys.length<=6) (f:∀ y∈ys,y.length<=7) (k:(Txt.join " " ys).length<=3000->R (.str (Txt.join " " ys)) G):a4Z (.str " ") [.ref q] G R:=by
  have a:=ahA ys fun y hy=>by have:=f y hy;omega
  have e:(Str.ofString " ").length=1:=by decide
  refine asA (aK h) (by rw [e];omega) (k (anB (by omega) (fun y hy=>by have:=f y hy;omega) (by rw [e];decide)))
noncomputable abbrev rwD (x:Pc) (g:Int):D := .tup [.tup [.int x.a,.int x.p],.int x.l,.int g]
noncomputable def qK (s:List D×Int) (x:Pc):List D×Int:=if s.2 > 0 then (s.1++[rwD x (min s.2 x.m)],s.2 - min s.2 x.m) else s
noncomputable def jH (w:Int) (qs:List Pc):List D×Int:=qs.foldl qK ([],w)
theorem a8W {w:Int} {k:Nat} {x:Pc} (h:qs[k]?=some x):jH w (qs.take (k+1))=qK (jH w (qs.take k)) x:=by
  unfold jH;rw [uh,h,List.foldl_append];rfl
theorem asB {s:List D×Int} {x:Pc} (h:0<=s.2/\s.1.all (aO 20)=true):0<=(qK s x).2/\(qK s x).1.all (aO 20)=true/\(qK s x).1.length<=s.1.length+1:=by
  unfold qK;split
  . refine ⟨by show 0<=s.2 - min s.2 x.m;omega,?_,by show (s.1++[_]).length<=_;rw [iz];exact bw _⟩;show (s.1++[rwD x (min s.2 x.m)]).all (aO 20)=true;rw [List.all_append,h.2];rfl
  . exact ⟨h.1,h.2,by omega⟩
theorem ahB:∀ (qs:List Pc) (s:List D×Int),0<=s.2/\s.1.all (aO 20)=true->0<=(qs.foldl qK s).2/\(qs.foldl qK s).1.all (aO 20)=true/\(qs.foldl qK s).1.length<=s.1.length+qs.length
  | [],s,h=>⟨h.1,h.2,bw _⟩
  | x :: r,s,h=>by
    have a:=asB (x:=x) h;have b:=ahB r (qK s x) ⟨a.1,a.2.1⟩;exact ⟨b.1,b.2.1,by have:=b.2.2;rw [List.foldl_cons,lq];omega⟩
theorem a3T {w:Int} (h:0<=w):0<=(jH w qs).2/\(jH w qs).1.all (aO 20)=true/\(jH w qs).1.length<=qs.length:=by
  have:=ahB qs ([],w) ⟨h,rfl⟩;simpa [jH] using this
noncomputable def a6H:D->Option Int
  | .int i=>if 1<=i/\i<=1000000 then some i else none
  | _=>none
noncomputable def a1H (d:D):Prop:=(∃ i:Int,d = .int i)∨d = .bl true∨d = .str "1" ∨ d = .non
noncomputable def ad3 (w:Int) (zs:List Pc):Str ⊕ List D:=if (jH w zs).2 > 0 then .inl "TooLittle" else .inr (jH w zs).1
noncomputable def a2T (ps:List Pc) (ws:List Str) (d:D) (o:Str ⊕ List D):Prop:=(a6H d=none/\o = .inl "NoAmount")∨∃ w zs,a6H d=some w/\zs.Perm ps/\Tn ws zs/\o=ad3 w zs
theorem ahC {o':Str ⊕ List D} (h:a2T ps ws d o) (h':a2T ps ws d o'):o=o':=by
  rcases h with ⟨a,rfl⟩ | ⟨w,zs,a,p,t,rfl⟩ <;> rcases h' with ⟨a',rfl⟩ | ⟨w',zs',a',p',t',rfl⟩
  . rfl
  . rw [a] at a';cases a'
  . rw [a] at a';cases a'
  . rw [a] at a';cases a';rw [azG p p' t t']
noncomputable def a1I (G:Gp) (d:D):Str ⊕ List D->Prop
  | .inl n=>d = .tup [.str "refused",.str n]
  | .inr rows=>∃ r,d = .ref r/\G r=some (.lst rows)/\rows.all (aO 20)=true
theorem anC (l:Le G G') (h:a1I G d o):a1I G' d o:=by
  cases o with
  | inl n=>exact h
  | inr rows=>exact h.elim fun r z=>⟨r,z.1,l _ _ z.2.1,z.2.2⟩
theorem ahD {rows:List D} (h:rows.all (aO 20)=true):jJ rows rows=true:=xO (n:=20) fun x hx=>fj.mp h x hx
theorem azN (h:a1I G d o) (h':a1I G d' o) (z:R (.bl true) G):v8 d d' G R:=by
  cases o with
  | inl n =>
    have e:d=_:=h;have e':d'=_:=h';subst e e';rw [agN,show eqP (.tup [.str "refused",.str n]) (.tup [.str "refused",.str n])=true by simp [eqP,jJ]];exact ⟨rfl,rfl,z⟩
  | inr rows =>
    obtain ⟨r,rfl,e,s⟩:=h;obtain ⟨r',rfl,e',_⟩:=h';rw [aeE (aK e) (aK e') s s,ahD s];exact z
theorem azO (h:a1I G d o) (h':a1I G d' o) (z:R (.bl false) G):a9I d d' G R:=by
  cases o with
  | inl n =>
    have e:d=_:=h;have e':d'=_:=h';subst e e';rw [agO,show eqP (.tup [.str "refused",.str n]) (.tup [.str "refused",.str n])=true by simp [eqP,jJ]];exact ⟨rfl,rfl,z⟩
  | inr rows =>
    obtain ⟨r,rfl,e,s⟩:=h;obtain ⟨r',rfl,e',_⟩:=h';rw [a5M (aK e) (aK e') s s,ahD s];exact z
theorem af3 (wd:a1H d) (h:R (.bl (a6H d).isSome) G):pZ K A [d,.int 1,.int 1000000] G R EX:=by
  refine ⟨rfl,?_⟩;replace h:=cP.here h;show jO K A _ _ [some d,some (.int 1),some (.int 1000000)] G;rcases wd with ⟨i,rfl⟩ | rfl | rfl | rfl
  . exists jO;rw [show a6H (.int i)=(if 1<=i/\i<=1000000 then some i else none) from rfl] at h;by_cases c1:1<=i
    . by_cases c2:i<=1000000
      . rw [if_pos ⟨c1,c2⟩] at h;simpa [c1,c2] using h
      . rw [if_neg (fun z=>c2 z.2)] at h;simpa [c1,c2] using h
    . rw [if_neg (fun z=>c1 z.1)] at h;simpa [c1] using h
  . exists jO;exact h
  . exists jO;exact h
  . exists jO;exact h
theorem ad4 (wd:a1H d) (h:R (.bl (a6H d).isSome) G):mV K A [d] G R EX:=by
  refine ⟨rfl,?_⟩;show wI K A _ _ [some d] G;exists wI;exact af3 wd (cP.here h)
theorem a7H (wd:a1H d) (h:∀ w,a6H d=some w->R .non G) (he:a6H d=none->EX A.aZ G):iY K A [d] G R EX:=by
  refine ⟨rfl,?_⟩;show qQ K A _ _ [some d] G;exists qQ;refine ad4 wd ?_;cases e:a6H d with
  | none =>
    walk_at "wr";exact fV.here (he e)
  | some w =>
    walk_at "wr";exact cP.here (h w e)
theorem ahE {w:Int} (h:a6H d=some w):d = .int w/\1<=w/\w<=1000000:=by
  cases d with
  | int i =>
    have h:(if 1<=i/\i<=1000000 then some i else none)=some w:=h;split at h
    . rename_i c;cases h;exact ⟨rfl,c⟩
    . cases h
  | _=>cases h
theorem anD {l:Addr} (wd:a1H d) (hl:bI G l=some (ps.map pD)) (hf:G f=some (.clo bU (.ref q))) (hq:G q=some (.lst (ws.map wX))) (hT:G A.dR=some an7) (h6:∀ w∈ws,bC w∈six) (hw:ws.length<=20000) (pl:ps.length<=60) (un:Unl ps) (ms:∀ x∈ps,1<=x.m)
    (h:∀ G' r rows,Le G G'->a2T ps ws d (.inr rows)->G' r=some (.lst rows)->rows.all (aO 20)=true->R (.ref r) G') (h1:a2T ps ws d (.inl "NoAmount")->EX A.aZ G) (h2:∀ G',Le G G'->a2T ps ws d (.inl "TooLittle")->EX A.aW G'):xX K A [.ref l,.ref f,d] G R EX:=by
  have b:=u0;refine ⟨rfl,?_⟩;show a5Y K A _ _ [some (.ref l),some (.ref f),some d,none,none,none,none,none,none,none,none] G;exists a5Y;refine a7H wd (fun w aw=>?_) fun an=>fV.here (h1 (.inl ⟨an,rfl⟩));obtain ⟨rfl,w1,w2⟩:=ahE aw;exists a5X,a5W;intro rw hrw;have l0:Le G (aM G rw (.lst [])) := .new hrw;exists a5V;refine aiZ (a0L l0 hl) (l0 _ _ hf) (l0 _ _ hq) (l0 _ _ hT) h6 hw pl un fun G1 r zs l1 r0 hr pm tn=>?_;have nr:r≠rw:=fun z=>by subst z;rw [aD] at r0;cases r0
  have azP:=l1 _ _ (show aM G rw (.lst []) rw=some (.lst []) from aD);have mz:∀ x∈zs,1<=x.m:=fun x hx=>ms x (pm.mem_iff.mp hx);have zl:zs.length<=60:=by rw [pm.length_eq];exact pl
  rw [rN (aK hr)];refine wB (fun k ρ G'=>∃ r5 r6 r7 r8 r9 r10,ρ=[some (.ref l),some (.ref f),some (.int w),some (.int (jH w (zs.take k)).2),some (.ref rw),r5,r6,r7,r8,r9,r10]/\HS G1 rw (jH w (zs.take k)).1 G') ⟨_,_,_,_,_,_,rfl,azP,fun q u n e=>e⟩ (fun k ρ G' ⟨_,_,_,_,_,_,_,s⟩=>aK (s.2 _ _ nr hr)) (fun k d ρ G' hk ⟨_,_,_,_,_,_,e1,s⟩=>?_) fun ρ G' ⟨_,_,_,_,_,_,e1,s⟩=>?_
  . subst e1;rw [jo] at hk;obtain ⟨x,hx,rfl⟩:=lg.mp hk;have xm:=mz x (jk hx);have ok:=a3T (w:=w) (qs:=zs.take k) (by omega);have tl:(zs.take k).length<=60:=by rw [ou];omega
    rw [a8W hx];rw [aa8 rfl];exists a2R;exists z7;generalize jH w (zs.take k)=sp at *;obtain ⟨rows,v⟩:=sp;dsimp only at ok s ⊢;have ev:(if v < x.m then v else x.m)=min v x.m:=by split <;> omega
    simp only [ev];by_cases c:v > 0
    . rw [if_pos (decide_eq_true (by omega)),show qK (rows,v) x=(rows++[rwD x (min v x.m)],v - min v x.m) from if_pos c];rw [mU,aK s.1];refine ⟨rfl,?_⟩;rw [rO s.1 (by omega)];exists rR;exact ⟨_,_,_,_,_,_,rfl,s.snd⟩
    . rw [if_neg (by simp;omega),show qK (rows,v) x=(rows,v) from if_neg c];exact ⟨_,_,_,_,_,_,rfl,s⟩
  . subst e1;rw [au,qb] at s;have ok:=a3T (w:=w) (qs:=zs) (by omega);have l2:Le G G':=fun x u e=>s.2 x u (jN e hrw) ((l0.trans l1) _ _ e);rw [au,qb];exists a5U;by_cases c:0 < (jH w zs).2
    . rw [if_pos (decide_eq_true c)];exact fV.here (h2 G' l2 (.inr ⟨w,zs,aw,pm,tn,by unfold ad3;rw [if_pos c]⟩))
    . rw [if_neg (by simpa using c)];exists a5T;exact cP.here (h G' rw _ l2 (.inr ⟨w,zs,aw,pm,tn,by unfold ad3;rw [if_neg c]⟩) s.1 ok.2.1)
theorem asC (wd:a1H d) (h:R (.bl (match d with | .int _=>true | _=>false)) G):lA K A [d] G R EX:=by
  refine ⟨rfl,?_⟩;replace h:=cP.here h;show fO K A _ _ [some d] G;rcases wd with ⟨i,rfl⟩ | rfl | rfl | rfl
  . exists fO;exact h
  . exists fO;exact h
  . exists fO;exact h
  . exists fO;exact h
theorem azQ {w:Int} (aw:a6H (.int w)=some w) (hp:G p=some (.lst (ps.map pD))) (hq:G q=some (.lst (ws.map D.str))) (h6:∀ w∈ws,bC w∈six) (wl:ws.length<=6) (pl:ps.length<=60) (un:Unl ps)
    (h:∀ G' d' o,Le G G'->a2T ps ws (.int w) o->a1I G' d' o->R d' G'):tQ K A ex { nx:=fun _ G'=>cP R .non G',rt:=cP R } [some (.ref p),some (.ref q),some (.int w),none,none,none] G:=by
  have b:=u0;obtain ⟨_,w1,w2⟩:=ahE aw;exists tQ;intro rw hrw;have l0:Le G (aM G rw (.lst [])) := .new hrw;exists a0Z,a0Y;refine an9 (l0 _ _ hp) (l0 _ _ hq) h6 wl pl un fun G1 r zs l1 r0 hr pm tn=>?_;have nr:r≠rw:=fun z=>by subst z;rw [aD] at r0;cases r0
  have azP:=l1 _ _ (show aM G rw (.lst []) rw=some (.lst []) from aD);have zl:zs.length<=60:=by rw [pm.length_eq];exact pl
  rw [rN (aK hr)];refine wB (fun k ρ G'=>∃ r5,ρ=[some (.ref p),some (.ref q),some (.int w),some (.ref rw),some (.int (jH w (zs.take k)).2),r5]/\HS G1 rw (jH w (zs.take k)).1 G') ⟨_,rfl,azP,fun q u n e=>e⟩ (fun k ρ G' ⟨_,_,s⟩=>aK (s.2 _ _ nr hr)) (fun k d ρ G' hk ⟨_,e1,s⟩=>?_) fun ρ G' ⟨_,e1,s⟩=>?_
  . subst e1;rw [jo] at hk;obtain ⟨x,hx,rfl⟩:=lg.mp hk;have ok:=a3T (w:=w) (qs:=zs.take k) (by omega);have tl:(zs.take k).length<=60:=by rw [ou];omega
    rw [a8W hx];exists z8;generalize jH w (zs.take k)=sp at *;obtain ⟨rows,v⟩:=sp;dsimp only at ok s ⊢;have ev:(if x.m < v then x.m else v)=min v x.m:=by split <;> omega
    by_cases c:v > 0
    . rw [if_pos (decide_eq_true c),show qK (rows,v) x=(rows++[rwD x (min v x.m)],v - min v x.m) from if_pos c];rw [mU,aK s.1];refine ⟨rfl,?_⟩;rw [ev,rO s.1 (by omega)];exists sE,ev;exact ⟨_,rfl,s.snd⟩
    . rw [if_neg (by simpa using c),show qK (rows,v) x=(rows,v) from if_neg c];exact ⟨_,rfl,s⟩
  . subst e1;rw [au,qb] at s;have ok:=a3T (w:=w) (qs:=zs) (by omega);have l2:Le G G':=fun x u e=>s.2 x u (jN e hrw) ((l0.trans l1) _ _ e);rw [au,qb];exists a0X;by_cases c:0 < (jH w zs).2
    . rw [if_pos (decide_eq_true c)];exact cP.here (h G' _ (.inl "TooLittle") l2 (.inr ⟨w,zs,aw,pm,tn,by unfold ad3;rw [if_pos c]⟩) rfl)
    . rw [if_neg (by simpa using c)];exists a0W;exact cP.here (h G' _ (.inr (jH w zs).1) l2 (.inr ⟨w,zs,aw,pm,tn,by unfold ad3;rw [if_neg c]⟩) ⟨rw,rfl,s.1,ok.2.1⟩)
theorem auA (wd:a1H d) (hp:G p=some (.lst (ps.map pD))) (hq:G q=some (.lst (ws.map D.str))) (h6:∀ w∈ws,bC w∈six) (wl:ws.length<=6) (pl:ps.length<=60) (un:Unl ps)
    (h:∀ G' d' o,Le G G'->a2T ps ws d o->a1I G' d' o->R d' G'):lU K A [.ref p,.ref q,d] G R EX:=by
  refine ⟨rfl,?_⟩;show zN K A _ _ [some (.ref p),some (.ref q),some d,none,none,none] G;have no:a6H d=none->cP R (.tup [.str "refused",.str "NoAmount"]) G:=fun z=>cP.here (h G _ (.inl "NoAmount") (.refl G) (.inl ⟨z,rfl⟩) rfl);exists zN;refine asC wd ?_;rcases wd with ⟨i,rfl⟩ | rfl | rfl | rfl
  . walk_at "wr";by_cases c1:1<=i
    . by_cases c2:i<=1000000
      . rw [if_neg (by simp;omega)];walk_at "wr";rw [if_neg (by simp;omega)];walk_at "wr";exact azQ (if_pos ⟨c1,c2⟩) hp hq h6 wl pl un h
      . rw [if_neg (by simp;omega)];walk_at "wr";rw [if_pos (by simp;omega)];exact no (if_neg fun z=>c2 z.2)
    . rw [if_pos (by simp;omega)];exact no (if_neg fun z=>c1 z.1)
  . walk_at "wr";exact no rfl
  . walk_at "wr";exact no rfl
  . walk_at "wr";exact no rfl
theorem anE (T:Txt K mg A) {l:Addr} (wd:a1H d) (hl:bI G l=some (ps.map pD)) (hq:G q=some (.lst (ws.map D.str))) (hT:G A.eU=some arZ) (hT2:G A.dR=some an7) (w0:ws≠[]) (wok:okN (ws.map bC)) (h6:∀ w∈ws,bC w∈six) (wl:ws.length<=6) (pl:ps.length<=60) (un:Unl ps) (ms:∀ x∈ps,1<=x.m)
    (h:∀ G' d' o,Le G G'->a2T ps ws d o->a1I G' d' o->R d' G'):j7 K A [.ref l,.ref q,d] G R EX:=by
  refine ⟨rfl,?_⟩;show wU K A _ _ [some (.ref l),some (.ref q),some d,none] G;exists wU;refine aER hq wl (fun w hw=>a6D (h6 w hw)) fun jl=>?_;refine aiW hT (by omega) (fun _ G1 q1 f l1 e1 e2=>?_) fun nk=>absurd (by rw [a6F w0 h6];exact wok) nk;rw [a6F w0 h6] at e1;refine anD wd (a0L l1 hl) e2 e1 (l1 _ _ hT2) h6 (by omega) pl un ms (fun G2 r rows l2 ok hr sh=>cP.here (h G2 _ (.inr rows) (l1.trans l2) ok ⟨r,rfl,hr,sh⟩)) (fun ok=>⟨T.bY,fun x hx=>?_⟩) fun G2 l2 ok=>⟨T.bQ,fun x hx=>?_⟩
  . have l3:Le G (aM G1 x (.exn A.aZ)):=l1.trans (.new hx);have he:aM G1 x (.exn A.aZ) x=some (.exn A.aZ):=aD;generalize aM G1 x (.exn A.aZ)=G3 at l3 he ⊢;walk_at "wr";refine iM he T.jT T.cQ ?_;walk_at "wr";refine agP he T.jT T.iG ?_;exists pB;refine iM he T.jT T.bV ?_;walk_at "wr";refine iM he T.jT T.cD ?_;exists pA;intro z hz;refine iM (bK he hz) T.jT T.bV ?_;walk_at "wr";rw [jM eN (d := .str "NoAmount") rfl];exact cP.here (h _ _ (.inl "NoAmount") (l3.trans (.new hz)) ok rfl)
  . have l3:Le G (aM G2 x (.exn A.aW)):=(l1.trans l2).trans (.new hx);have he:aM G2 x (.exn A.aW) x=some (.exn A.aW):=aD;generalize aM G2 x (.exn A.aW)=G3 at l3 he ⊢;walk_at "wr";refine iM he T.iH T.cH ?_;walk_at "wr";refine agP he T.iH T.fQ ?_;exists pB;refine iM he T.iH T.bO ?_;walk_at "wr";refine iM he T.iH T.bZ ?_;exists pA;intro z hz;refine iM (bK he hz) T.iH T.bO ?_;walk_at "wr";rw [jM eN (d := .str "TooLittle") rfl];exact cP.here (h _ _ (.inl "TooLittle") (l3.trans (.new hz)) ok rfl)
theorem ahF:∀ ps:List Pc,(ps.map pD).all (aO 20)=true
  | []=>rfl
  | x :: r=>by rw [iu,mq,ahF r];rfl
theorem aES (ps:List Pc):jJ (ps.map pD) (ps.map pD)=true:=xO (n:=20) fun x hx=>fj.mp (ahF ps) x hx
theorem ahG (n:Int):∀ ys:List Int,(ys.map D.int).any (fun y=>eqP y (.int n))=ys.contains n
  | []=>rfl
  | y :: r=>by
    rw [iu,rm,ahG n r,List.contains_cons];congr 1;show (y == n)=(n == y);exact wg.mpr ⟨fun z=>by rw [beq_iff_eq] at z ⊢;exact z.symm,fun z=>by rw [beq_iff_eq] at z ⊢;exact z.symm⟩
theorem ahH:∀ ys:List Int,(ys.map D.int).all scD=true
  | []=>rfl
  | y :: r=>by rw [iu,mq,ahH r];rfl
theorem asD {n:Int} {ys:List Int} (e:bI G p=some (ys.map D.int)) (h:R (.bl (!ys.contains n)) G):sO (.int n) (.ref p) G R:=by
  unfold sO inG;simp only [e];exact ⟨rfl,ahH ys,by rw [ahG];exact h⟩
theorem aET (hp:bI G p=some (ns.map D.int)) (hn:ns≠[]) (h:∀ M,M∈ns->(∀ a∈ns,M<=a)->R (.int M) G):vZ [.ref p] G R:=by
  show (match bI G p with
    | some ds=>∃ ns:List Int,ds=ns.map D.int/\ns≠[]/\∀ M,M∈ns->(∀ a∈ns,M<=a)->R (.int M) G
    | none=>False)
  rw [hp];exact ⟨ns,rfl,hn,h⟩
theorem anF {ks:List Int} (h:ks.length<=40):∃ n:Nat,n < 100/\((n:Nat):Int) ∉ ks:=by
  refine Classical.byContradiction fun z=>?_
  have all:∀ m∈(gk 100).map (fun i:Nat=>(i:Int)),m∈ks:=fun m hm=>by
    obtain ⟨i,hi,rfl⟩:=jc.mp hm;exact Classical.byContradiction fun q=>z ⟨i,ni.mp hi,q⟩
  have nd:((gk 100).map (fun i:Nat=>(i:Int))).Nodup:=by
    unfold List.Nodup;rw [List.pairwise_map];exact (List.nodup_range (n:=100)).imp fun h e=>h (by omega)
  have:=nd.length_le_of_subset all;rw [au,List.length_range] at this;omega
theorem ahI:∀ ps:List Pc,(∀ x∈ps,1<=x.m)->0<=(ps.map (·.m)).sum
  | [],_=>yp _
  | x :: r,h=>by
    have a:=ahI r fun y hy=>h y (by simp [hy]);have b:=h x (by simp);rw [iu,List.sum_cons];omega
noncomputable def mOf:D->Int
  | .tup (_ :: _ :: .int m :: _)=>m
  | _=>0
noncomputable def lOf:D->Int
  | .tup (_ :: .int l :: _)=>l
  | _=>0
theorem asF (un:Unl ps) (h:l ∉ ps.map (·.l)):Unl (ps++[⟨25,99,l,1000000,0,0⟩]):=by
  refine ad1 un fun z=>?_;obtain ⟨x,hx,e⟩:=jc.mp z;have e:(([x.a,x.p],x.l):NK)=([25,99],l):=e;exact h (jc.mpr ⟨x,hx,congrArg Prod.snd e⟩)
theorem auB (T:Txt K mg A) {F:fU} {r3 r5 r7:Option D} (wd:a1H d) (hp:G p=some (.lst (ps.map pD))) (hq:G q=some (.lst (ws.map D.str))) (hT:G A.eU=some arZ) (hT2:G A.dR=some an7) (w0:ws≠[]) (wok:okN (ws.map bC)) (h6:∀ w∈ws,bC w∈six) (wl:ws.length<=6) (pl:ps.length<=40) (un:Unl ps) (ms:∀ x∈ps,1<=x.m) (h:∀ G',F.rt (.bl true) G') :
    aaH K A ex F [r0,some (.ref p),some (.ref q),r3,r4,r5,some d,r7,none,none,none,none,none] G:=by
  have b:=u0;exists aaH;rw [amQ (aK hp)];intro hd hhd;have l1:Le G (aM G hd (.lst (ps.map pD))) := .new hhd;have hh1:aM G hd (.lst (ps.map pD)) hd=some (.lst (ps.map pD)):=aD;generalize aM G hd (.lst (ps.map pD))=G1 at l1 hh1 ⊢;exists agT;refine anE T wd (aK hh1) (l1 _ _ hq) (l1 _ _ hT) (l1 _ _ hT2) w0 wok h6 wl (by omega) un ms fun G2 d2 o2 l2 ok2 is2=>?_;have l12:=l1.trans l2;exists acR;rw [a5M (aK (l2 _ _ hh1)) (aK (l12 _ _ hp)) (ahF ps) (ahF ps),aES];walk_at "wr";refine auA wd (l12 _ _ hp) (l12 _ _ hq) h6 wl (by omega) un fun G3 d3 o3 l3 ok3 is3=>?_;have eo:=ahC ok3 ok2;subst eo;refine azO (anC l3 is2) is3 ?_;exists acQ;have l13:=l12.trans l3;rw [wA (aK (l13 _ _ hp))];refine comp_map (fun d => .int (lOf d)) (by show (ps.map pD).length < sizeLine;rw [au];omega) (aK (l13 _ _ hp)) (fun d hd G' l' Q hQ=>?_) fun k hk=>?_
  . have hd:d∈ps.map pD:=hd;obtain ⟨x,hx,rfl⟩:=jc.mp hd;walk_at "wr";exact hQ _ (.refl _)
  have ek:((Src.lst p (ps.map pD)).items.map fun d=>D.int (lOf d))=(ps.map (·.l)).map D.int:=by
    show (ps.map pD).map _=_;rw [jm,jm];rfl
  rw [ek];have l14:Le G (aM G3 k (.lst ((ps.map (·.l)).map D.int))):=l13.trans (.new hk);have hk4:aM G3 k (.lst ((ps.map (·.l)).map D.int)) k=some (.lst ((ps.map (·.l)).map D.int)):=aD;have hh4:=bK (o := .lst ((ps.map (·.l)).map D.int)) (l3 _ _ (l2 _ _ hh1)) hk;generalize aM G3 k (.lst ((ps.map (·.l)).map D.int))=G4 at l14 hk4 hh4 ⊢;exists acP;refine agR (fun d=>!(ps.map (·.l)).contains (match d with | .int i=>i | _=>0)) (fun d=>d) (by show (yJ 0 100).length < sizeLine;unfold yJ;rw [au,List.length_range];exact Nat.lt_trans (by decide) b) trivial (fun d hd G' l' Q hQ=>?_) (fun d hd _ G' l' Q hQ=>?_) fun z hz=>?_
  . have hd:d∈yJ 0 100:=hd;obtain ⟨i,_,rfl⟩:=jc.mp hd;walk_at "wr";refine asD (aK (l' _ _ hk4)) ?_;walk_at "wr";exact hQ _ (.refl _)
  . walk_at "wr";exact hQ _ (.refl _)
  have en:(((Src.imm (yJ 0 100)).items.filter fun d=>!(ps.map (·.l)).contains (match d with | .int i=>i | _=>0)).map fun d=>d)=(((gk 100).filter fun i:Nat=>!(ps.map (·.l)).contains (0+(i:Int))).map fun i:Nat=>0+(i:Int)).map D.int:=by
    show ((yJ 0 100).filter _).map _=_;unfold yJ;rw [List.map_id',List.filter_map,jm];rfl
  rw [en];obtain ⟨fl,f1,f2⟩:=anF (ks:=ps.map (·.l)) (by rw [au];exact pl);refine aET eN (fun e=>?_) fun M hM _=>?_
  . have:(0+(fl:Int))∈((gk 100).filter fun i:Nat=>!(ps.map (·.l)).contains (0+(i:Int))).map fun i:Nat=>0+(i:Int):=jc.mpr ⟨fl,vp.mpr ⟨ni.mpr f1,by rw [Int.zero_add];simpa using f2⟩,rfl⟩;rw [e] at this;cases this
  obtain ⟨i,hi,rfl⟩:=jc.mp hM
  have nl:(0+(i:Int)) ∉ ps.map (·.l):=by
    have:=(vp.mp hi).2;rw [cg,← Bool.not_eq_true,yw] at this;exact this
  generalize (0+(i:Int))=M at nl ⊢;generalize hL:GO.lst ((((gk 100).filter fun i:Nat=>!(ps.map (·.l)).contains (0+(i:Int))).map fun i:Nat=>0+(i:Int)).map D.int)=oL;have un2:=asF un nl;have l15:Le G (aM G4 z oL):=l14.trans (.new hz);have hh5:=bK (o:=oL) hh4 hz;generalize aM G4 z oL=G5 at l15 hh5 ⊢;exists acO;rw [mU,aK hh5];refine ⟨rfl,?_⟩;rw [rO hh5 (by rw [au];omega)]
  have l16:Le G (aM G5 hd (.lst (ps.map pD++[pD ⟨25,99,M,1000000,0,0⟩]))):=fun x u e=>by
    rw [aX (jN e hhd)];exact l15 _ _ e
  have hh6:aM G5 hd (.lst (ps.map pD++[pD ⟨25,99,M,1000000,0,0⟩])) hd=some (.lst ((ps++[(⟨25,99,M,1000000,0,0⟩:Pc)]).map pD)):=by
    rw [aD,jx];rfl
  generalize aM G5 hd (.lst (ps.map pD++[pD ⟨25,99,M,1000000,0,0⟩]))=G6 at l16 hh6 ⊢;have pl2:(ps++[(⟨25,99,M,1000000,0,0⟩:Pc)]).length<=60:=by rw [iz];show ps.length+1<=60;omega
  have ms2:∀ x∈ps++[(⟨25,99,M,1000000,0,0⟩:Pc)],1<=x.m:=fun x hx=>by
    rcases qx.mp hx with hx | hx
    . exact ms x hx
    . rw [kj.mp hx];show (1:Int)<=1000000;decide
  generalize ps++[(⟨25,99,M,1000000,0,0⟩:Pc)]=ps2 at *;exists acN;refine anE T (.inl ⟨_,rfl⟩) (aK hh6) (l16 _ _ hq) (l16 _ _ hT) (l16 _ _ hT2) w0 wok h6 wl pl2 un2 ms2 fun G7 d7 o7 l7 ok7 is7=>?_;exists acM;refine auA (.inl ⟨_,rfl⟩) (l7 _ _ hh6) (l7 _ _ (l16 _ _ hq)) h6 wl pl2 un2 fun G8 d8 o8 l8 ok8 is8=>?_;have eo:=ahC ok8 ok7;subst eo;exact azN (anC l8 is7) is8 (h _)
theorem ix6 {a0 a1 a2 a3 a4 a5:Int}:∃ v:Int,yL [D.int a0,.int a1,.int a2,.int a3,.int a4,.int a5] (c % 6)=some (.int v):=by
  rcases (show c % 6=0∨c % 6=1∨c % 6=2∨c % 6=3∨c % 6=4∨c % 6=5 by omega) with e | e | e | e | e | e <;> (rw [e];exact ⟨_,rfl⟩)
theorem ix8 {a0 a1 a5 a6 a7:Int}:∃ d:D,yL [D.int a0,.int a1,.bl true,.str "1",.non,.int a5,.int a6,.int a7] (c % 8)=some d/\a1H d:=by
  rcases (show c % 8=0∨c % 8=1∨c % 8=2∨c % 8=3∨c % 8=4∨c % 8=5∨c % 8=6∨c % 8=7 by omega) with e | e | e | e | e | e | e | e
  . rw [e];exact ⟨_,rfl,.inl ⟨_,rfl⟩⟩
  . rw [e];exact ⟨_,rfl,.inl ⟨_,rfl⟩⟩
  . rw [e];exact ⟨_,rfl,.inr (.inl rfl)⟩
  . rw [e];exact ⟨_,rfl,.inr (.inr (.inl rfl))⟩
  . rw [e];exact ⟨_,rfl,.inr (.inr (.inr rfl))⟩
  . rw [e];exact ⟨_,rfl,.inl ⟨_,rfl⟩⟩
  . rw [e];exact ⟨_,rfl,.inl ⟨_,rfl⟩⟩
  . rw [e];exact ⟨_,rfl,.inl ⟨_,rfl⟩⟩
theorem main (T:Txt K mg A) (a:Addr) (ns:List Int) (hl:ns.length<=63) (G:Gp) (hG:G a=some (.rol (ns.map D.int))) (hT:G A.eU=some arZ) (hT2:G A.dR=some an7):aeR K A [.ref a] G (fun d _=>d = .bl true) (fun _ _=>False):=by
  have b:=u0;refine ⟨rfl,?_⟩;show amW K A _ _ [some (.ref a),none,none,none,none,none,none,none,none,none,none,none,none] G;exists amW;refine anA hG fun G1 p ps l1 hp pl un ms=>?_;exists agZ;refine as5 (l1 _ _ hG) fun G2 q ws l2 hq w0 wok h6 wl=>?_;have l12:=l1.trans l2;have hp2:=l2 _ _ hp;exists agY;rw [wA (aK hp2)];refine comp_map (fun d => .int (mOf d)) (by show (ps.map pD).length < sizeLine;rw [au];omega) (aK hp2) (fun d hd G' l' Q hQ=>?_) fun k hk=>?_
  . have hd:d∈ps.map pD:=hd;obtain ⟨x,hx,rfl⟩:=jc.mp hd;walk_at "wr";exact hQ _ (.refl _)
  have ek:((Src.lst p (ps.map pD)).items.map fun d=>D.int (mOf d))=(ps.map (·.m)).map D.int:=by
    show (ps.map pD).map _=_;rw [jm,jm];rfl
  rw [ek,aEG eN];have l13:Le G (aM G2 k (.lst ((ps.map (·.m)).map D.int))):=l12.trans (.new hk);have hp3:=bK (o := .lst ((ps.map (·.m)).map D.int)) hp2 hk;have hq3:=bK (o := .lst ((ps.map (·.m)).map D.int)) hq hk;generalize aM G2 k (.lst ((ps.map (·.m)).map D.int))=G3 at l13 hp3 hq3 ⊢;have sp:=ahI ps ms;generalize (ps.map (·.m)).sum=S at sp ⊢;have nz:S+2≠0:=by omega
  exists agX;refine zP (k:=3) (l13 _ _ hG) (by decide) ?_;generalize cellAt ns 3=c;exists agW;refine zP (k:=4) (l13 _ _ hG) (by decide) ?_;generalize cellAt ns 4=c4;exists agV;intro z hz;have l14:Le G3 (aM G3 z (.lst [D.int (1+c % (S+2)),D.int (if 1 < S then S else 1),D.int 1,D.int (1+c % 1000000),D.int (S+1),D.int (1+c % (S+2))])) := .new hz;obtain ⟨v,ev⟩:=ix6 (c:=c4) (a0:=1+c % (S+2)) (a1:=if 1 < S then S else 1) (a2:=1) (a3:=1+c % 1000000) (a4:=S+1) (a5:=1+c % (S+2));rw [jM eN ev];generalize aM G3 z (.lst [D.int (1+c % (S+2)),D.int (if 1 < S then S else 1),D.int 1,D.int (1+c % 1000000),D.int (S+1),D.int (1+c % (S+2))])=G4 at l14 ⊢;have l04:=l13.trans l14;exists agU;split
  . exists a68;intro z2 hz2;obtain ⟨d,ed,wd⟩:=ix8 (c:=c) (a0:=0) (a1:=1000001) (a5:=0 - 1) (a6:=0 - 1 - c / 8 * 48271 % 1000000007) (a7:=1000002+c / 8 * 48271 % 1000000007);have l15:Le G4 (aM G4 z2 (.lst [D.int 0,.int 1000001,.bl true,.str "1",.non,.int (0 - 1),.int (0 - 1 - c / 8 * 48271 % 1000000007),.int (1000002+c / 8 * 48271 % 1000000007)])) := .new hz2;rw [jM eN ed];walk_at "wr";have l05:=l04.trans l15;exact auB T wd (l15 _ _ (l14 _ _ hp3)) (l15 _ _ (l14 _ _ hq3)) (l05 _ _ hT) (l05 _ _ hT2) w0 wok h6 wl pl un ms fun G'=>⟨G',.refl G',rfl⟩
  . exact auB T (.inl ⟨_,rfl⟩) (l14 _ _ hp3) (l14 _ _ hq3) (l04 _ _ hT) (l04 _ _ hT2) w0 wok h6 wl pl un ms fun G'=>⟨G',.refl G',rfl⟩
end
end Law
namespace Law
open PySem PySem.Spec PyProof.Rows L2 L4 PySem.W
variable {qt:Bool}{st:Stmt}{f:Addr}{fd:FuncData}{ps:List Str}{S:SI}{c:CB}{tb:aY->bL}
section
variable {P:Program} {w:World} {K:Fg} {mg:Str->Option Value} {base:Heap} {A:bN}
local macro_rules | `(tactic| walk_at "sc")=>`(tactic| exact ⟨rfl,rfl,rfl,by decide +kernel,rfl,by decide +kernel,by decide +kernel⟩)
theorem dc {x qual:Str} {k:Nat} (F:v9 K x qual st f fd) (hS:bD S.N ps (aH st)) (hc:S.calm=!qt) (hv:a0I S (aH st)=true) (hk:kB S 0 c (cA st)=true) (he:(fun EX=>mB S.gl K (fun _=>EX) c)=tb) (hg:∀ (j:Nat) (y:Str) (g:GT),S.gl[j]?=some (y,g)->GTs P w K mg base k y g) (hn:S.need=false:=by rfl):cG qt P w K mg base (iK P w) (k+1) f fd ps (cY K (spD S.N.length ps.length tb)):=by
  rw [← he];exact am9 F hS hc hv hk hg hn
theorem dcT {x qual:Str} {k:Nat} (F:v9 K x qual st f fd) (hS:bD S.N ps (aH st)) (hc:S.calm=!qt) (hv:a0I S (aH st)=true) (hk:kB S 0 c (cA st)=true) (he:(fun EX=>mB S.gl K (fun _=>EX) c)=tb) (hg:∀ (j:Nat) (y:Str) (g:GT),S.gl[j]?=some (y,g)->GTs P w K mg base k y g) (hnc:(aH st).names.all (fun y=>y.2 != .cell)=true:=by decide +kernel) (hne:ps≠[]:=by decide):cG qt P w K mg base (iK P w) (k+1) f fd ps (cY K (spD S.N.length ps.length tb)):=by
  rw [← he];exact aiO F hS hnc hne hc hv hk hg
theorem ad5 (T:Txt K mg A) (hB:Bse base mg A):cG false P w K mg base (iK P w) 1 A.zJ A.oK ["thing", "least", "most"] (cY K (pZ K A)) :=
  dc (S:=aeL K A) (c:=aeK) T.pC (show bD ["thing", "least", "most"] ["thing", "least", "most"] _ from by walk_at "sc") rfl (by kernel_rfl) (by kernel_rfl) (by kernel_rfl) (iR ⟨T.acT,a9N⟩ (iR ⟨T.jE,kW⟩ (iR ⟨T.aeS,afW⟩ gln)))
theorem aaJ (T:Txt K mg A) (hB:Bse base mg A):cG false P w K mg base (iK P w) 2 A.wF A.lQ ["thing"] (cY K (mV K A)) :=
  dc (S:=acJ K A) (c:=acI) T.lV (show bD ["thing"] ["thing"] _ from by walk_at "sc") rfl (by kernel_rfl) (by kernel_rfl) (by kernel_rfl) (iR (gcI T.eZ) (iR ⟨_,_,_,(ad5 T hB).mono (by decide),T.tU,T.pC.kp,T.tR⟩ gln))
theorem a6I (T:Txt K mg A) (hB:Bse base mg A):cG false P w K mg base (iK P w) 3 A.qN A.gF ["thing"] (cY K (iY K A)) :=
  dc (S:=a7C K A) (c:=a7B) T.gK (show bD ["thing"] ["thing"] _ from by walk_at "sc") rfl (by kernel_rfl) (by kernel_rfl) (by kernel_rfl) (iR ⟨_,_,_,(aaJ T hB).mono (by decide),T.qH,T.lV.kp,T.qG⟩ (iR ⟨T.zO,T.iB,T.dX,T.fJ,T.dY⟩ gln))
theorem a7I (T:Txt K mg A) (hB:Bse base mg A):cG false P w K mg base (iK P w) 1 A.sZ A.iT ["piece"] (cY K (kY K A)) :=
  dc (S:=aaA K A) (c:=aa9) T.j8 (show bD ["piece"] ["piece"] _ from by walk_at "sc") rfl (by kernel_rfl) (by kernel_rfl) (by kernel_rfl) gln
theorem ahJ (T:Txt K mg A) (hB:Bse base mg A):cG false P w K mg base (iK P w) 1 A.aeJ A.a5R ["word"] (cY K (xV K A)) :=
  dc (S:=azB K A) (c:=azA) T.a2D (show bD ["word"] ["word"] _ from by walk_at "sc") rfl (by kernel_rfl) (by kernel_rfl) (by kernel_rfl) gln
theorem ad6 (T:Txt K mg A) (hB:Bse base mg A):cG false P w K mg base (iK P w) 2 A.zK A.oM ["text"] (cY K (qC K A)) :=
  dc (S:=aeO K A) (c:=aeN) T.pF (show bD ["text", "words", "names", "name"] ["text"] _ from by walk_at "sc") rfl (by kernel_rfl) (by kernel_rfl) (by kernel_rfl) (iR ⟨T.au6,ax0⟩ (iR ⟨T.jE,kW⟩ (iR ⟨T.a6B,T.pH,T.jU,T.jV,T.jW⟩ (iR ⟨_,_,_,(ahJ T hB).mono (by decide),T.a6A,T.a2D.kp,T.a69⟩ (iR (gcT T.tZ) gln)))))
theorem a7J (T:Txt K mg A) (hB:Bse base mg A):vQ false P w K mg base 2 bU (gJ K A):=by
  have h:=amB (P:=P) (w:=w) (mg:=mg) (base:=base) (k:=1) (c:=bU) (ps:=["piece"]) (S:=a0V K A) (cb:=a0U) (show ScX ["parts", "piece", "numbers"] ["piece"] "parts" bU.scope from ⟨rfl,rfl,rfl,by decide +kernel,rfl,by decide +kernel,a8Q (by decide +kernel),rfl⟩) (by decide +kernel) (fun _ _ _ _ _ us hl=>match us,hl with | [_],_=>rfl) rfl (by kernel_rfl) (by kernel_rfl) (iR ⟨_,_,_,(a7I T hB).mono (by decide),T.mY,T.j8.kp,T.mX⟩ (iR ⟨T.ah1,akQ⟩ gln));have e:(fun EX=>mB (a0V K A).gl K (fun _=>EX) a0U)=fun EX=>mW K A (fun _=>EX):=by kernel_rfl
  rw [e] at h;exact h
theorem af4 (T:Txt K mg A) (hB:Bse base mg A):cG false P w K mg base (iK P w) 3 A.a2B A.nG ["text"] (cY K (tK K A)):=by
  have h:=arB (qt:=false) (P:=P) (w:=w) (mg:=mg) (base:=base) (k:=2) (S:=a8U K A) (cb:=a8T) (pre:=(cA dO).take 1) (c:=bU) (pos:=ac4 (inBody dO 1)) (pg:=ayH (inBody dO 2)) (pr:=aDS (inBody dO 2)) (ig:=2) (ix:=1) T.nJ (show bD ["text", "parts", "tuple_of"] ["text"] _ from by walk_at "sc") (by kernel_rfl) (by kernel_rfl) (by kernel_rfl) (fun _=>rfl) (by kernel_rfl) T.rP hB.1.2 hB.1.1 (by kernel_rfl) (by kernel_rfl) (by kernel_rfl) (by kernel_rfl) (by kernel_rfl) (by decide) (by decide +kernel) (by decide +kernel) rfl (by kernel_rfl) (by kernel_rfl) (iR ⟨_,_,_,(ad6 T hB).mono (by decide),T.tW,T.pF.kp,T.tV⟩ (iR (gcT T.tZ) (iR ⟨_,_,_,(ahJ T hB).mono (by decide),T.a6A,T.a2D.kp,T.a69⟩ gln)));have e:(fun EX=>mB (a8U K A).gl K (fun _=>EX) a8T)=fun EX=>xW K A (fun _=>EX):=by kernel_rfl
  rw [e] at h;exact h
theorem a6J (T:Txt K mg A) (hB:Bse base mg A):yR false P w K mg base 3 cN (iZ K A):=by
  have h:=amC (P:=P) (w:=w) (mg:=mg) (base:=base) (k:=2) (c:=cN) (ps:=["piece"]) (S:=z6 K A) (ce:=yZ) (show ScX ["rule", "piece"] ["piece"] "rule" cN.scope from ⟨rfl,rfl,rfl,by decide +kernel,rfl,by decide +kernel,a8Q (by decide +kernel),rfl⟩) (by decide +kernel) (fun _ _ _ _ us hl=>match us,hl with | [_],_=>rfl) rfl (by kernel_rfl) (by kernel_rfl) (iR (vQ.mono (a7J T hB) (by decide)) gln);have e:(mE (z6 K A).gl K (fun _=>fV fun _ _=>False) yZ)=kZ K A (fun _=>fV fun _ _=>False):=by kernel_rfl
  rw [e] at h;exact h
theorem af5 (T:Txt K mg A) (hB:Bse base mg A):cG false P w K mg base (iK P w) 6 A.a2C A.nH ["pieces", "rule"] (cY K (tL K A)) :=
  aiN (N:=["pieces", "rule"]) (ip:=0) (ix:=1) (c:=cN) T.nO (by walk_at "sc") (by kernel_rfl) (fun _=>rfl) (by kernel_rfl) T.rQ hB.2.2 hB.2.1 (by kernel_rfl) rfl (by kernel_rfl) rfl (by kernel_rfl) (by decide) (by decide) (by kernel_rfl) T.acV (a6J T hB)
theorem aj2 (T:Txt K mg A) (hB:Bse base mg A):cG false P w K mg base (iK P w) 7 A.a5S A.wG ["pieces", "rule", "amount"] (cY K (xX K A)) :=
  dc (S:=amV K A) (c:=amU) T.wV (show bD ["pieces", "rule", "amount", "wanted", "rows", "spot", "lot", "lies", "due", "came", "grains"] ["pieces", "rule", "amount"] _ from by walk_at "sc") rfl (by kernel_rfl) (by kernel_rfl) (by kernel_rfl) (iR ⟨_,_,_,(a6I T hB).mono (by decide),T.lE,T.gK.kp,T.lD⟩ (iR ⟨_,_,_,(af5 T hB).mono (by decide),T.yD,T.nO.kp,T.yC⟩ (iR ⟨T.ah0,adX⟩ (iR ⟨T.wW,T.fK,T.dD,T.eF,T.dF⟩ gln))))
theorem m8 (T:Txt K mg A) (hB:Bse base mg A):cG false P w K mg base (iK P w) 1 A.oN A.fD ["_law_script", "_law_k"] (cY K (bF K A)) :=
  dc (S:=a65 K A) (c:=a5Z) T.cX (show bD ["_law_script", "_law_k", "_law_mixed"] ["_law_script", "_law_k"] _ from by walk_at "sc") rfl (by kernel_rfl) (by kernel_rfl) (by kernel_rfl) (iR ⟨T.acU,a9M⟩ gln)
theorem a7K (T:Txt K mg A) (hB:Bse base mg A):cG false P w K mg base (iK P w) 1 A.tD A.iU ["_law_found"] (cY K (lA K A)) :=
  dc (S:=aaC K A) (c:=aaB) T.j9 (show bD ["_law_found"] ["_law_found"] _ from by walk_at "sc") rfl (by kernel_rfl) (by kernel_rfl) (by kernel_rfl) (iR ⟨T.acT,a9N⟩ (iR ⟨T.jE,kW⟩ (iR ⟨T.aeS,afW⟩ gln)))
theorem a6K (T:Txt K mg A) (hB:Bse base mg A):cG false P w K mg base (iK P w) 2 A.qO A.gG ["_law_script"] (cY K (j5 K A)) :=
  dc (S:=a7E K A) (c:=a7D) T.gM (show bD ["_law_script", "_law_cell", "_law_many", "_law_found", "_law_known", "_law_days", "_law_k", "_law_spot", "_law_lot", "_law_other", "_law_due_here", "_law_came", "_law_grains"] ["_law_script"] _ from by walk_at "sc") rfl (by kernel_rfl) (by kernel_rfl) (by kernel_rfl) (iR ⟨_,_,_,(m8 T hB).mono (by decide),T.dW,T.cX.kp,T.dU⟩ (iR ⟨T.a1E,a0K⟩ (iR ⟨T.acT,a9N⟩ gln)))
theorem a7L (T:Txt K mg A) (hB:Bse base mg A):cG false P w K mg base (iK P w) 2 A.tE A.iV ["_law_script"] (cY K (lB K A)) :=
  dc (S:=aaE K A) (c:=aaD) T.jA (show bD ["_law_script", "_law_left", "_law_cell", "_law_words_here", "_law_k"] ["_law_script"] _ from by walk_at "sc") rfl (by kernel_rfl) (by kernel_rfl) (by kernel_rfl) (iR ⟨_,_,_,(m8 T hB).mono (by decide),T.dW,T.cX.kp,T.dU⟩ (iR ⟨T.a1E,a0K⟩ (iR ⟨T.acU,a9M⟩ gln)))
theorem a3A (T:Txt K mg A) (hB:Bse base mg A):cG false P w K mg base (iK P w) 1 A.oO A.fG ["_law_piece", "_law_words_here"] (cY K (eO K A)) :=
  dcT (S:=a67 K A) (c:=a66) T.fH (show bD ["_law_piece", "_law_words_here", "_law_found", "_law_word", "_law_name", "_law_told_here", "_law_number"] ["_law_piece", "_law_words_here"] _ from by walk_at "sc") rfl (by kernel_rfl) (by kernel_rfl) (by kernel_rfl) gln
theorem a7M (T:Txt K mg A) (hB:Bse base mg A):cG false P w K mg base (iK P w) 2 A.tG A.iW ["_law_one", "_law_other", "_law_words_here"] (cY K (lC K A)) :=
  dc (S:=aaG K A) (c:=aaF) T.jD (show bD ["_law_one", "_law_other", "_law_words_here", "_law_first", "_law_second", "_law_k"] ["_law_one", "_law_other", "_law_words_here"] _ from by walk_at "sc") rfl (by kernel_rfl) (by kernel_rfl) (by kernel_rfl) (iR ⟨_,_,_,(a3A T hB).mono (by decide),T.jC,T.fH.kp,T.jB⟩ (iR ⟨T.a1E,a0K⟩ (iR ⟨T.acU,a9M⟩ gln)))
theorem a6L (T:Txt K mg A) (hB:Bse base mg A):cG false P w K mg base (iK P w) 3 A.qP A.gH ["_law_pieces_here", "_law_words_here"] (cY K (j6 K A)) :=
  dc (S:=a7G K A) (c:=a7F) T.gO (show bD ["_law_pieces_here", "_law_words_here", "_law_found", "_law_piece", "_law_at"] ["_law_pieces_here", "_law_words_here"] _ from by walk_at "sc") rfl (by kernel_rfl) (by kernel_rfl) (by kernel_rfl) (iR ⟨T.acU,a9M⟩ (iR ⟨_,_,_,(a7M T hB).mono (by decide),T.nD,T.jD.kp,T.nC⟩ gln))
theorem ad7 (T:Txt K mg A) (hB:Bse base mg A):cG false P w K mg base (iK P w) 4 A.zL A.oR ["_law_pieces_here", "_law_words_here", "_law_wanted"] (cY K (lU K A)) :=
  dc (S:=aeQ K A) (c:=aeP) T.pG (show bD ["_law_pieces_here", "_law_words_here", "_law_wanted", "_law_rows", "_law_left", "_law_piece"] ["_law_pieces_here", "_law_words_here", "_law_wanted"] _ from by walk_at "sc") rfl (by kernel_rfl) (by kernel_rfl) (by kernel_rfl) (iR ⟨_,_,_,(a7K T hB).mono (by decide),T.n6,T.j9.kp,T.mZ⟩ (iR ⟨_,_,_,(a6L T hB).mono (by decide),T.lJ,T.gO.kp,T.lH⟩ (iR ⟨T.ah0,adX⟩ gln)))
theorem aaK (T:Txt K mg A) (hB:Bse base mg A):cG false P w K mg base (iK P w) 8 A.wH A.lR ["_law_pieces_here", "_law_words_here", "_law_wanted"] (cY K (j7 K A)) :=
  dc (S:=acL K A) (c:=acK) T.lW (show bD ["_law_pieces_here", "_law_words_here", "_law_wanted", "error"] ["_law_pieces_here", "_law_words_here", "_law_wanted"] _ from by walk_at "sc") rfl (by kernel_rfl) (by kernel_rfl) (by kernel_rfl) (iR ⟨T.a1C,T.fP,T.eV,T.eX,T.eY⟩ (iR ⟨_,_,_,(af4 T hB).mono (by decide),T.xZ,T.nJ.kp,T.xY⟩ (iR ⟨_,_,_,(aj2 T hB).mono (by decide),T.a1B,T.wV.kp,T.a1A⟩ (iR ⟨T.a6B,T.pH,T.jU,T.jV,T.jW⟩ (iR ⟨T.jE,kW⟩ (iR ⟨T.a1D,a77⟩ (iR ⟨T.zO,T.iB,T.dX,T.fJ,T.dY⟩ (iR ⟨T.wW,T.fK,T.dD,T.eF,T.dF⟩ (iR ⟨T.acT,a9N⟩ gln)))))))))
theorem azS (T:Txt K mg A) (hB:Bse base mg A):cG false P w K mg base (iK P w) 9 A.a2Q A.amT ["_law_script"] (cY K (aeR K A)) :=
  dc (S:=aEH K A) (c:=acS) T.au4 (show bD ["_law_script", "_law_pieces_here", "_law_words_here", "_law_whole_here", "_law_cell", "_law_way", "_law_wanted", "_law_far_off", "_law_handed", "_law_found", "_law_known", "_law_lot", "_law_more"] ["_law_script"] _ from by walk_at "sc") rfl (by kernel_rfl) (by kernel_rfl) (by kernel_rfl) (iR ⟨_,_,_,(a6K T hB).mono (by decide),T.lG,T.gM.kp,T.lF⟩ (iR ⟨_,_,_,(a7L T hB).mono (by decide),T.nA,T.jA.kp,T.n8⟩ (iR ⟨T.au7,awZ⟩ (iR ⟨_,_,_,(m8 T hB).mono (by decide),T.dW,T.cX.kp,T.dU⟩ (iR ⟨T.au5,awY⟩ (iR ⟨T.amX,apW⟩ (iR ⟨_,_,_,(aaK T hB).mono (by decide),T.qJ,T.lW.kp,T.qI⟩ (iR ⟨_,_,_,(ad7 T hB).mono (by decide),T.tY,T.pG.kp,T.tX⟩ (iR ⟨T.a1E,a0K⟩ (iR ⟨T.ah0,adX⟩ gln))))))))))
end
noncomputable def ahK (K:Fg) (T U:Addr):Sp:=fun vs H Q _=>∃ (a:Addr) (ns:List Int),vs=[.ref a]/\yG K H a (ns.map V.int)/\ns.length<=63/\K.lookup T=none/\K.lookup U=none/\T≠U/\H T=some (.vB #[])/\H U=some (.vB #[])/\∀ H',Q (.bl true) H'
theorem auD {K:Fg} {H:Hp} {T a:Addr} {xs:List V} (hK:K.lookup T=none) (hT:H T=some (.vB #[])) (hS:yG K H a xs):T≠a:=fun z=>by
  rw [← z] at hS;rcases hS with (e | ⟨o,e⟩) | ⟨o,_,_,e,_⟩
  . rw [hT] at e;cases e
  . rw [hT] at e;cases e
  . rw [hK] at e;cases e
variable {mg:Str->Option Value}
theorem asH {K:Fg} {A:bN} (T:Txt K mg A):∀ vs H Q E,ahK K A.eU A.dR vs H Q E->cY K (aeR K A) vs H Q E:=by
  rintro vs H Q E ⟨a,ns,rfl,hS,hl,hK,hK2,n12,hT,hT2,k⟩;have ne:=auD hK hT hS;have ne2:=auD hK2 hT2 hS;refine ⟨[.ref a],fun b=>if b=a then some (GO.rol (ns.map D.int)) else if b=A.eU then some (GO.tab bU.qual (ac4 (inBody dO 1))) else if b=A.dR then some (GO.tab cN.qual cN.pos) else none,fun d _=>d = .bl true,fun _ _=>False,.cons (.ref a) .nil,fun b o e=>?_,main T a ns hl _ (if_pos rfl) ((if_neg ne).trans (if_pos rfl)) ((if_neg ne2).trans ((if_neg (Ne.symm n12)).trans (if_pos rfl))),fun v H' d G' r g e=>?_,fun C H' G' g z=>z.elim⟩
  . have e2:(if b=a then some (GO.rol (ns.map D.int)) else if b=A.eU then some (GO.tab bU.qual (ac4 (inBody dO 1))) else if b=A.dR then some (GO.tab cN.qual cN.pos) else none)=some o:=e;split at e2
    . rename_i hb;subst hb;cases e2;exact ⟨_,hS,bR.ints ns⟩
    . split at e2
      . rename_i hb;subst hb;cases e2;exact ⟨#[],hT,.inl rfl⟩
      . split at e2
        . rename_i hb;subst hb;cases e2;exact ⟨#[],hT2,.inl rfl⟩
        . cases e2
  . subst e;cases r;exact k H'
noncomputable def Cb (K:Fg) (x q:Str) (st:Stmt) (f:Addr):Prop:=∃ oc kV dc pm cd ct od an sl,K.lookup f=some ⟨oc,od,.func (nu x q (jY st) (cA st) (aH st) .none kV dc pm an cd ct),sl⟩/\uo K cd q=true/\jy K (.ref f)=true
theorem Cb.get {K:Fg} {x q:Str} (b:Cb K x q st f) (ps:List Str) (h:∀ kV dc pm an cd ct,∀ us:List Value,us.length=ps.length->bindArgs (nu x q (jY st) (cA st) (aH st) .none kV dc pm an cd ct) ⟨us,[]⟩=pure (ps.zip us)):∃ d,v9 K x q st f d/\Binds K d ps []/\jy K (.ref f)=true:=by
  obtain ⟨oc,kV,dc,pm,cd,ct,od,an,sl,l,c,k⟩:=b;exact ⟨_,ak6 (st:=st) l c k,agM (h _ _ _ _ _ _),k⟩
noncomputable def Fb (K:Fg) (x:Str) (st:Stmt) (f:Addr):Prop:=ji K mainGlobals x=some (some (.ref f))/\Cb K x x st f
theorem Fb.get {K:Fg} {q:Str} {st:Stmt} {f:Addr} {h:Heap} {mg:Str->Option Value} (b:Fb K q st f) (XK:K.In h) (GG:h.Ns mainGlobals mg) (ps:List Str) (h:∀ kV dc pm an cd ct,∀ us:List Value,us.length=ps.length->bindArgs (nu q q (jY st) (cA st) (aH st) .none kV dc pm an cd ct) ⟨us,[]⟩=pure (ps.zip us)):∃ d,v9 K q q st f d/\Binds K d ps []/\mg q=some (.ref f):=by
  obtain ⟨d,F,B,_⟩:=b.2.get ps h;exact ⟨d,F,B,su XK GG b.1⟩
noncomputable def Mb (K:Fg) (c:Addr) (x q:Str) (st:Stmt) (f:Addr):Prop:=jt K (.ref c) x=some (some (.ref f))/\PySem.W.isFn K (.ref f)=true/\Cb K x q st f
theorem Mb.get {K:Fg} {c:Addr} {x q:Str} {st:Stmt} {f:Addr} (b:Mb K c x q st f) (ps:List Str) (h:∀ kV dc pm an cd ct,∀ us:List Value,us.length=ps.length->bindArgs (nu x q (jY st) (cA st) (aH st) .none kV dc pm an cd ct) ⟨us,[]⟩=pure (ps.zip us)):∃ d,v9 K x q st f d/\Binds K d ps []/\jt K (.ref c) x=some (some (.ref f))/\PySem.W.isFn K (.ref f)=true/\jy K (.ref f)=true:=by
  obtain ⟨d,F,B,k⟩:=b.2.2.get ps h;exact ⟨d,F,B,b.1,b.2.1,k⟩
variable {l:PySem.W.OpenLaw}
theorem all_mk {w:World} {K:Fg} {h:Heap} {fa:Addr} (XK:K.In h) (GG:h.Ns mainGlobals mg) (hfa:mg "law" = some (.ref fa))
    (zQ:(tabIn K "rule_of").isSome=true)
    (a6M:K.lookup (fC K "rule_of").2=none)
    (zR:(tabIn K "in_turn").isSome=true)
    (a6N:K.lookup (fC K "in_turn").2=none)
    (zT:Fb K "is_whole" a5O af6)
    (xA:Fb K "is_amount" a2O ad8)
    (qW:Fb K "need_amount" yV a7N)
    (u5:Fb K "numbers_of" a0M aaL)
    (af7:Fb K "bare" amS azT)
    (zU:Fb K "words_of" a5P af8)
    (yE:Fb K "rule_of" dO aj3)
    (yF:Fb K "in_turn" a2A aj4)
    (a6O:Fb K "picked" acG anG)
    (pI:Fb K "_law_cell_at" wC a6P)
    (u6:Fb K "_law_whole" a0N aaM)
    (qX:Fb K "_law_pieces" yW a7O)
    (u9:Fb K "_law_words" a0O aaN)
    (pJ:Fb K "_law_numbers" wD a6Q)
    (uD:Fb K "_law_ahead" a0P aaO)
    (qY:Fb K "_law_turned" yX a7P)
    (zV:Fb K "_law_due" a5Q af9)
    (xB:Fb K "_law_told" a2P ad9)
    (a2Q:ji K mainGlobals "law" = some (some (.ref anH)))
    (anI:K.lookup anH=some ⟨aIM,aIN,.func (nu "law" "law" (jY acH) (cA acH) (aH acH) .none aIO aIP aIQ aIR azU aIS),aIT⟩)
    (acS:uo K azU "law" = true)
    (anJ:jy K (.ref anH)=true)
    (uE:ji K mainGlobals "DepotError" = some (some (.ref eG)))
    (fP:ju K eG [.type "ValueError",.type "Exception",.type "BaseException",.type "object"] "ValueError.__new__" = true)
    (eV:(jj K eG).isSome=true)
    (eX:jz K (.ref eG)=some (.type "type"))
    (eY:je K (.ref eG) (.type "BaseException")=some true)
    (zW:ji K mainGlobals "NoAmount" = some (some (.ref bW)))
    (iB:ju K bW [.type "ValueError",.type "Exception",.type "BaseException",.type "object"] "ValueError.__new__" = true)
    (dX:(jj K bW).isSome=true)
    (fJ:jz K (.ref bW)=some (.type "type"))
    (dY:je K (.ref bW) (.type "BaseException")=some true)
    (xC:jt K (.ref bW) "__getattribute__" = some (some (.builtin "BaseException.__getattribute__")))
    (xD:jt K (.ref bW) "__getattr__" = some none)
    (xE:jt K (.ref bW) "__class__" = some (some (.builtin "object.__class__")))
    (xF:PySem.W.mroIn K bW (.type "object")=some true)
    (iG:gq K (.ref bW) (.type "ValueError")=some true)
    (xG:ji K mainGlobals "TooLittle" = some (some (.ref bM)))
    (fK:ju K bM [.type "ValueError",.type "Exception",.type "BaseException",.type "object"] "ValueError.__new__" = true)
    (dD:(jj K bM).isSome=true)
    (eF:jz K (.ref bM)=some (.type "type"))
    (dF:je K (.ref bM) (.type "BaseException")=some true)
    (uF:jt K (.ref bM) "__getattribute__" = some (some (.builtin "BaseException.__getattribute__")))
    (uG:jt K (.ref bM) "__getattr__" = some none)
    (uH:jt K (.ref bM) "__class__" = some (some (.builtin "object.__class__")))
    (uI:PySem.W.mroIn K bM (.type "object")=some true)
    (fQ:gq K (.ref bM) (.type "ValueError")=some true)
    (a6R:ji K mainGlobals "NoRule" = some (some (.ref pK)))
    (pH:ju K pK [.type "ValueError",.type "Exception",.type "BaseException",.type "object"] "ValueError.__new__" = true)
    (jU:(jj K pK).isSome=true)
    (jV:jz K (.ref pK)=some (.type "type"))
    (jW:je K (.ref pK) (.type "BaseException")=some true)
    (bY:je K (.ref bW) (.ref eG)=some true)
    (bV:gq K (.ref bW) (.ref bW)=some true)
    (cQ:gq K (.ref bW) (.ref pK)=some false)
    (cD:gq K (.ref bW) (.ref bM)=some false)
    (bQ:je K (.ref bM) (.ref eG)=some true)
    (bO:gq K (.ref bM) (.ref bW)=some false)
    (cH:gq K (.ref bM) (.ref pK)=some false)
    (bZ:gq K (.ref bM) (.ref bM)=some true)
    (eZ:ji K mainGlobals "MOST_AMOUNT" = some (some (.int 1000000 a7Q)))
    (tZ:ji K mainGlobals "WORDS" = some (some (.ref ahL)))
    (a6S:K.lookup ahL=some ⟨.type "tuple",none,.seq #[(.str "due" anK),(.str "came" anL),(.str "amount" anM),(.str "aisle" anN),(.str "place" anO),(.str "lot" anP)] aEV,aEW⟩)
    (uJ:ji K mainGlobals "ValueError" = some none)
    (afA:ji K mainGlobals "bool" = some none)
    (anQ:ji K mainGlobals "int" = some none)
    (uK:ji K mainGlobals "isinstance" = some none)
    (anR:ji K mainGlobals "len" = some none)
    (afB:ji K mainGlobals "list" = some none)
    (anS:ji K mainGlobals "max" = some none)
    (anT:ji K mainGlobals "min" = some none)
    (aaP:ji K mainGlobals "range" = some none)
    (a6T:ji K mainGlobals "sorted" = some none)
    (anU:ji K mainGlobals "str" = some none)
    (anV:ji K mainGlobals "sum" = some none)
    (aaQ:ji K mainGlobals "tuple" = some none) :
    ∃ fd:FuncData,(∀ (s:Shared) (v:Value),BindsTo s fd ⟨[v],[]⟩ [("_law_script",v)])/\∀ base:Heap,K.In base->base.Ns mainGlobals mg->base.BuiltinsAt mg (fC K "rule_of").2->CodeHd base (fC K "rule_of").1 (fC K "rule_of").2->base.BuiltinsAt mg (fC K "in_turn").2->CodeHd base (fC K "in_turn").1 (fC K "in_turn").2->cG false l.prog w K mg base (iK l.prog w) 9 fa fd ["_law_script"] (ahK K (fC K "rule_of").2 (fC K "in_turn").2):=by
  have e:=hfa.symm.trans (su XK GG a2Q);cases e;obtain ⟨oK,pC,tR,tU⟩:=zT.get XK GG ["thing", "least", "most"] fun _ _ _ _ _ _ us hl=>match us,hl with | [_,_,_],_=>rfl
  obtain ⟨lQ,lV,qG,qH⟩:=xA.get XK GG ["thing"] fun _ _ _ _ _ _ us hl=>match us,hl with | [_],_=>rfl
  obtain ⟨gF,gK,lD,lE⟩:=qW.get XK GG ["thing"] fun _ _ _ _ _ _ us hl=>match us,hl with | [_],_=>rfl
  obtain ⟨iT,j8,mX,mY⟩:=u5.get XK GG ["piece"] fun _ _ _ _ _ _ us hl=>match us,hl with | [_],_=>rfl
  obtain ⟨a5R,a2D,a69,a6A⟩:=af7.get XK GG ["word"] fun _ _ _ _ _ _ us hl=>match us,hl with | [_],_=>rfl
  obtain ⟨oM,pF,tV,tW⟩:=zU.get XK GG ["text"] fun _ _ _ _ _ _ us hl=>match us,hl with | [_],_=>rfl
  obtain ⟨nG,nJ,xY,xZ⟩:=yE.get XK GG ["text"] fun _ _ _ _ _ _ us hl=>match us,hl with | [_],_=>rfl
  obtain ⟨nH,nO,yC,yD⟩:=yF.get XK GG ["pieces", "rule"] fun _ _ _ _ _ _ us hl=>match us,hl with | [_,_],_=>rfl
  obtain ⟨wG,wV,a1A,a1B⟩:=a6O.get XK GG ["pieces", "rule", "amount"] fun _ _ _ _ _ _ us hl=>match us,hl with | [_,_,_],_=>rfl
  obtain ⟨fD,cX,dU,dW⟩:=pI.get XK GG ["_law_script", "_law_k"] fun _ _ _ _ _ _ us hl=>match us,hl with | [_,_],_=>rfl
  obtain ⟨iU,j9,mZ,n6⟩:=u6.get XK GG ["_law_found"] fun _ _ _ _ _ _ us hl=>match us,hl with | [_],_=>rfl
  obtain ⟨gG,gM,lF,lG⟩:=qX.get XK GG ["_law_script"] fun _ _ _ _ _ _ us hl=>match us,hl with | [_],_=>rfl
  obtain ⟨iV,jA,n8,nA⟩:=u9.get XK GG ["_law_script"] fun _ _ _ _ _ _ us hl=>match us,hl with | [_],_=>rfl
  obtain ⟨fG,fH,jB,jC⟩:=pJ.get XK GG ["_law_piece", "_law_words_here"] fun _ _ _ _ _ _ us hl=>match us,hl with | [_,_],_=>rfl
  obtain ⟨iW,jD,nC,nD⟩:=uD.get XK GG ["_law_one", "_law_other", "_law_words_here"] fun _ _ _ _ _ _ us hl=>match us,hl with | [_,_,_],_=>rfl
  obtain ⟨gH,gO,lH,lJ⟩:=qY.get XK GG ["_law_pieces_here", "_law_words_here"] fun _ _ _ _ _ _ us hl=>match us,hl with | [_,_],_=>rfl
  obtain ⟨oR,pG,tX,tY⟩:=zV.get XK GG ["_law_pieces_here", "_law_words_here", "_law_wanted"] fun _ _ _ _ _ _ us hl=>match us,hl with | [_,_,_],_=>rfl
  obtain ⟨lR,lW,qI,qJ⟩:=xB.get XK GG ["_law_pieces_here", "_law_words_here", "_law_wanted"] fun _ _ _ _ _ _ us hl=>match us,hl with | [_,_,_],_=>rfl
  have T:Txt K mg ⟨af6,oK,
    ad8,lQ,
    a7N,gF,
    aaL,iT,
    azT,a5R,
    af8,oM,
    aj3,nG,
    aj4,nH,
    anG,wG,
    a6P,fD,
    aaM,iU,
    a7O,gG,
    aaN,iV,
    a6Q,fG,
    aaO,iW,
    a7P,gH,
    af9,oR,
    ad9,lR,
    anH,_,
    eG,
    bW,
    bM,
    pK,
    (fC K "rule_of").2,
    (fC K "rule_of").1,
    (fC K "in_turn").2,
    (fC K "in_turn").1⟩:={
    rP:=ac5 nJ (a3Q zQ) yE.1,
    rQ:=ac5 nO (a3Q zR) yF.1,
    pC:=pC,
    tR:=tR,
    tU:=tU,
    lV:=lV,
    qG:=qG,
    qH:=qH,
    gK:=gK,
    lD:=lD,
    lE:=lE,
    j8:=j8,
    mX:=mX,
    mY:=mY,
    a2D:=a2D,
    a69:=a69,
    a6A:=a6A,
    pF:=pF,
    tV:=tV,
    tW:=tW,
    nJ:=nJ,
    xY:=xY,
    xZ:=xZ,
    nO:=nO,
    yC:=yC,
    yD:=yD,
    wV:=wV,
    a1A:=a1A,
    a1B:=a1B,
    cX:=cX,
    dU:=dU,
    dW:=dW,
    j9:=j9,
    mZ:=mZ,
    n6:=n6,
    gM:=gM,
    lF:=lF,
    lG:=lG,
    jA:=jA,
    n8:=n8,
    nA:=nA,
    fH:=fH,
    jB:=jB,
    jC:=jC,
    jD:=jD,
    nC:=nC,
    nD:=nD,
    gO:=gO,
    lH:=lH,
    lJ:=lJ,
    pG:=pG,
    tX:=tX,
    tY:=tY,
    lW:=lW,
    qI:=qI,
    qJ:=qJ,
    au4:=ak6 (st:=acH) anI acS anJ,
    aEI:=agM (ps:=["_law_script"]) (fun us hl=>match us,hl with | [_],_=>rfl),
    aEJ:=su XK GG a2Q,
    a1C:=su XK GG uE,
    fP:=fP,
    eV:=eV,
    eX:=eX,
    eY:=eY,
    zO:=su XK GG zW,
    iB:=iB,
    dX:=dX,
    fJ:=fJ,
    dY:=dY,
    jT:=⟨xC,xD,xE,
    dY,xF,
    dX⟩,
    iG:=iG,
    wW:=su XK GG xG,
    fK:=fK,
    dD:=dD,
    eF:=eF,
    dF:=dF,
    iH:=⟨uF,uG,uH,
    dF,uI,
    dD⟩,
    fQ:=fQ,
    a6B:=su XK GG a6R,
    pH:=pH,
    jU:=jU,
    jV:=jV,
    jW:=jW,
    bY:=bY,
    bV:=bV,
    cQ:=cQ,
    cD:=cD,
    bQ:=bQ,
    bO:=bO,
    cH:=cH,
    bZ:=bZ,
    eZ:=⟨a7Q,su XK GG eZ⟩,
    tZ:=⟨ahL,su XK GG tZ,ayI (xs:=[.str "due",.str "came",.str "amount",.str "aisle",.str "place",.str "lot"]) a6S (show 6<=sizeLine by decide) (.cons ⟨anK,rfl⟩ (.cons ⟨anL,rfl⟩ (.cons ⟨anM,rfl⟩ (.cons ⟨anN,rfl⟩ (.cons ⟨anO,rfl⟩ (.cons ⟨anP,rfl⟩ .nil)))))) fun _=>(.cons (.str _) (.cons (.str _) (.cons (.str _) (.cons (.str _) (.cons (.str _) (.cons (.str _) .nil))))))⟩,
    a1D:=jr XK GG uJ,
    aeS:=jr XK GG afA,
    acT:=jr XK GG anQ,
    jE:=jr XK GG uK,
    acU:=jr XK GG anR,
    amX:=jr XK GG afB,
    au5:=jr XK GG anS,
    ah0:=jr XK GG anT,
    a1E:=jr XK GG aaP,
    acV:=jr XK GG a6T,
    au6:=jr XK GG anU,
    au7:=jr XK GG anV,
    ah1:=jr XK GG aaQ }
  exact ⟨_,fun s v => .of_eq rfl,fun base _ _ h1 h2 h3 h4=>(azS T ⟨⟨h1,h2⟩,h3,h4⟩).imp (asH T)⟩
theorem walk {q:Program} {loose:List Str} {XP:(Str->Option Value)->Heap->Prop} {YP:World->Heap->Prop} {d:DefRec} {K:Params->bx} (hn:l.most=some 63) (hdf:d.params.defaults=[])
    (hY:∀ (w:World) (h:Heap),YP w h->(K w.params).In h) (hdm:∀ y∈(["rule_of", "in_turn"]:List Str),((recsOf q).find? (fun e=>e.name == y)).isSome=true) (hT:∀ w:World,(tabIn (K w.params) "rule_of").isSome=true/\(tabIn (K w.params) "in_turn").isSome=true) (hKT:∀ w:World,(K w.params).lookup (fC (K w.params) "rule_of").2=none/\(K w.params).lookup (fC (K w.params) "in_turn").2=none) (hne:∀ w:World,((fC (K w.params) "rule_of").2 == (fC (K w.params) "in_turn").2)=false)
    (F:∀ (w:World) (mg:Str->Option Value) (fa:Addr) (h:Heap),(K w.params).In h->h.Ns mainGlobals mg->mg d.name=some (.ref fa) ->
      ∃ fd:FuncData,(∀ (s:Shared) (u:Value),BindsTo s fd ⟨[u],[]⟩ [("_law_script",u)])/\∀ base:Heap,(K w.params).In base->base.Ns mainGlobals mg->base.BuiltinsAt mg (fC (K w.params) "rule_of").2->CodeHd base (fC (K w.params) "rule_of").1 (fC (K w.params) "rule_of").2->base.BuiltinsAt mg (fC (K w.params) "in_turn").2->CodeHd base (fC (K w.params) "in_turn").1 (fC (K w.params) "in_turn").2->cG false l.prog w (K w.params) mg base (iK l.prog w) 9 fa fd ["_law_script"] (ahK (K w.params) (fC (K w.params) "rule_of").2 (fC (K w.params) "in_turn").2)) :
    PySem.W.WalkO q loose XP YP l.row.toRowW d [] (fun f vs=>PySem.call f vs):=by
  refine L2.aiP (qt:=false) (n:=63) (k:=9) (x := "_law_script") (xs:=["rule_of", "in_turn"]) (CX:=fun w=>iK l.prog w) (TL:=fun w=>[((fC (K w.params) "rule_of").1,(fC (K w.params) "rule_of").2),((fC (K w.params) "in_turn").1,(fC (K w.params) "in_turn").2)]) (sp:=fun w=>ahK (K w.params) (fC (K w.params) "rule_of").2 (fC (K w.params) "in_turn").2) hn (by decide) hdf ⟨fun _=>rfl,by decide,by decide⟩ hY hdm (fun w p hp=>?_) (fun w p hp=>?_) (fun w mg fa h KX G hmg=>?_) (fun w H a ns hl hO hS=>⟨a,ns,rfl,hS,hl,(hKT w).1,(hKT w).2,beq_eq_false_iff_ne.mp (hne w),hO.1 _ (.head _),hO.1 _ (.tail _ (.head _)),fun _=>rfl⟩) fun _ _ _ _ _ ⟨_,_,_,_,_,_,_,_,_,_,_,_,z⟩=>z
  . rcases jq.mp hp with rfl | hp
    . exact ⟨"rule_of",.head _,a3Q (hT w).1⟩
    . rw [kj.mp hp];exact ⟨"in_turn",.tail _ (.head _),a3Q (hT w).2⟩
  . rcases jq.mp hp with rfl | hp
    . exact (hKT w).1
    . rw [kj.mp hp];exact (hKT w).2
  . obtain ⟨fd,hb,z⟩:=F w mg fa h KX G hmg;exact ⟨fd,hb,fun base h1 h2 h3=>z base h1 h2 (h3 _ (.head _)).1 (h3 _ (.head _)).2 (h3 _ (.tail _ (.head _))).1 (h3 _ (.tail _ (.head _))).2⟩
end Law
open PySem PySem.W PyProof.Rows
theorem PySem.Challenge.cw_depot_k44_picked_holds : PySem.Challenge.rw_depot_k44_picked.Holds := by
  w_on;o_law;o_head (PySem.W.kHook Law.frK.heap_39 Law.frA Law.frE)
  case hl=>exact Law.frL
  case hw=>w_witness2
  k_fill
  refine Law.walk (l:=PySem.Challenge.rw_depot_k44_picked) rfl rfl (fun w h Y=>PySem.W.kIn_of Y) (by intro y hy;rcases jq.mp hy with rfl | hy;kernel_rfl;rw [kj.mp hy];kernel_rfl) (fun w=>⟨by kernel_rfl,by kernel_rfl⟩) (fun w=>⟨by kernel_rfl,by kernel_rfl⟩) (fun w=>by kernel_rfl) ?F
  case F =>
    intro w mg fa h KX G hmg;refine' Law.all_mk KX G hmg ?zQ ?a6M ?zR ?a6N ?zT ?xA ?qW ?u5 ?af7 ?zU ?yE ?yF ?a6O ?pI ?u6 ?qX ?u9 ?pJ ?uD ?qY ?zV ?xB ?a2Q ?anI ?acS ?anJ ?uE ?fP ?eV ?eX ?eY ?zW ?iB ?dX ?fJ ?dY ?xC ?xD ?xE ?xF ?iG ?xG ?fK ?dD ?eF ?dF ?uF ?uG ?uH ?uI ?fQ ?a6R ?pH ?jU ?jV ?jW ?bY ?bV ?cQ ?cD ?bQ ?bO ?cH ?bZ ?eZ ?tZ ?a6S ?uJ ?afA ?anQ ?uK ?anR ?afB ?anS ?anT ?aaP ?a6T ?anU ?anV ?aaQ
    case zQ | a6M | zR | a6N=>kernel_rfl
    case zT | xA | qW | u5 | af7 | zU | yE | yF | a6O | pI | u6 | qX | u9 | pJ | uD | qY | zV | xB=>exact ⟨by k_is,_,_,_,_,_,_,_,_,_,by k_is,by k_is,by k_is⟩
    case a2Q | anI | acS | anJ | uE=>k_is
    case fP=>k_exc
    case eV=>kernel_rfl
    case eX | eY | zW=>k_is
    case iB=>k_exc
    case dX=>kernel_rfl
    case fJ | dY | xC | xD | xE | xF=>k_is
    case iG=>kit_is
    case xG=>k_is
    case fK=>k_exc
    case dD=>kernel_rfl
    case eF | dF | uF | uG | uH | uI=>k_is
    case fQ=>kit_is
    case a6R=>k_is
    case pH=>k_exc
    case jU=>kernel_rfl
    case jV | jW | bY=>k_is
    case bV | cQ | cD=>kit_is
    case bQ=>k_is
    case bO | cH | bZ=>kit_is
    case eZ | tZ | a6S | uJ | afA | anQ | uK | anR | afB | anS | anT | aaP | a6T | anU | anV | aaQ=>k_is
