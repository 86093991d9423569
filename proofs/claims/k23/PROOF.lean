import PyProof.Rows.All
import Wide.All
import OpenK.KLine
import OpenK.KOwn
import Wide.FinOn
import Lean
import PyProof.EqAt
import PyProof.EqKinds
import PyProof.TupleCall
import KE.KMinKey
import KE.KSortTup
import KE.KRevSl
import KE.KStateDown
import PyProof.Rows.Range3
import KE.KDictOf
import PyProof.AttrMissSeq
import KE.KRevIter
import KE.KItemsList
import KE.KPairComp
import KE.KEqDict
import KE.KDictSum
import KE.RegKIsAll
import PySem.Challenge.RW_depot_k23_whole_no_grain_lost
set_option Elab.async false
set_option linter.all false
set_option maxRecDepth 100000
set_option maxHeartbeats 4000000
open PySem renaming wpAny_bind->aj,wpAny_pure->aq
open Bool renaming and_eq_true->ak,not_eq_true'->bx,false_ne_true->jm,false_eq_true->jx,or_eq_true->zp
open PySem.Heap renaming get?_push_of_some->ao,lt_size->bh,get?_push_size->cg,SameBut->iz,get?_update_self->vh,ExtBut->yp,MadeExcOf->a0c,size_push->a0d
open Nat renaming le_refl->au,ne_of_lt->dw,lt_of_lt_of_le->dz,le_trans->jj,lt_irrefl->kh,zero_le->lu,le_of_lt->qb,lt_trichotomy->uf,lt_succ_of_lt->vf,le_succ_of_le->vg,ne_of_gt->wu,le_of_eq->xq,lt_of_le_of_lt->xu,le_succ->yt,min_eq_left->zm
open List renaming size_toArray->bw,getElem?_eq_getElem->dg,length_map->dh,map_cons->dj,getElem?_eq_some_iff->fj,mem_map->gw,mem_cons->ig,all_eq_true->iu,mem_of_getElem?->je,nodup_cons->jg,range->ji,map_append->jk,mem_append_right->jq,mem_cons_of_mem->jr,mem_singleton->jt,length_cons->ju,getElem?_set_ne->kj,map_map->lg,getD->mq,filter_cons->mz,lookup_cons->ni,mem_append->oh,length_append->qd,lookup->qe,getElem?_map->qg,getElem?_append_right->ql,all_cons->qm,getElem?_eq_none->qp,pairwise_iff_getElem->qu,nodup_append->qy,any_cons->qz,mem_range->rm,find?_cons->su,getElem?_append_left->ug,replicate->uh,map_congr_left->um,getElem?_cons_zero->uo,mem_filter->uq,mem_cons_self->ur,append_nil->uw,length_filter_le->vo,mem_append_left->vp,getElem_mem->wg,not_mem_nil->wj,mem_filterMap->wz,nodup_nil->yc,take_succ->yd,pairwise_map->yj,getElem?_set_self->yq,sum_cons->yu,length_take->yw,any_eq_true->yx,take_length->za,cons_append->zc,filterMap_cons->zu,filter_eq_self->a0a,filter_sublist->a0b
open PySem.W renaming kitOne->cj,Frag->cu,findIn->iw,subIn->iy,nsIn->jc,clsIn->jd,excIn->jf,typeIn->jh,mg_none_of->jo,mg_of->jw,keepIn->jy,Looks->jz,emptyDict->nj,kia_one->ou,fnOf->qj,instObj->qx,codeIn->vm,plainGet->vq,isFn->xg,hasDictIn->yg,Hook->zf,hideAll->zj,plainGet_of->zx,callWith_K0->zy,lookIn->a0e,callWith_K->a0f
open Option renaming some->gk,none->ux,isSome_iff_exists->xr,isSome_map->yh
open Array renaming length_toList->nu,getElem?_eq_getElem->qw,getElem?_toList->tu,getElem?_eq_some_iff->uc
open Int renaming toNat_natCast->ud,le_refl->wk,emod_nonneg->zq
namespace Law
open PySem PySem.W PyProof.Rows
noncomputable def frT (n:Nat):Stmt:=PySem.Challenge.pw_depot_k23_whole_no_grain_lost.main.body.getD n (.Pass ⟨0,0,0,0⟩)
noncomputable def frQ:Program:={ PySem.Challenge.pw_depot_k23_whole_no_grain_lost with main:={ PySem.Challenge.pw_depot_k23_whole_no_grain_lost.main with body:=[frT 1,frT 2,frT 3,frT 4,frT 5,frT 6,frT 7,frT 9,frT 10,frT 11,frT 12,frT 13,frT 14,frT 16,frT 17,frT 18,frT 19,frT 21,frT 22,frT 23,frT 25,frT 26,frT 27,frT 28,frT 30,frT 31,frT 32,frT 33,frT 34,frT 35,frT 36,frT 37] } }
theorem frB {p q:Program} {loose:List Str} {Xt:Shared->Bool} {α:Type} {Yf:Shared->α} {Ya:World->α} {N:Nat} {g0:Bool}
    (e:opening p=plainProg p.main.scope.names) (hN:Nat.ble 600 N=true) (f:∀ s,fenceModules? p s=some s)
    (h:∀ (w:World) (os:OsState),(topFrom treeTable p w N ⟨boot_heap w.params,#[],boot_drawn,boot_toks,os⟩).map (fun s=>(openSeen q loose (importedModules p.main.body) Xt g0 s,Yf s))=some (openGood q loose,Ya w)) :
    LeftO p q loose Xt Yf Ya N g0:=fun w=>by
  obtain ⟨⟨h1,gs,d,k,os⟩,e1,e'⟩:=Option.map_eq_some_iff.mp (boot_open e hN f w);obtain ⟨rfl,rfl,rfl,rfl⟩:h1=boot_heap w.params/\gs=#[]/\d=boot_drawn/\k=boot_toks:=by simpa using e'
  unfold openEnds;rw [e1];exact h w os
noncomputable abbrev frX:Shared->Bool:=fun s=>xlAt frQ [] s&&recOk (RowW.records (OpenRow.toRowW (OpenLaw.row PySem.Challenge.rw_depot_k23_whole_no_grain_lost))) s
end Law
local macro_rules
  | `(tactic| o_head $H)=>`(tactic| refine PySem.W.holds_open (q:=Law.frQ) (loose:=[]) (Xt:=Law.frX) (XP:=PySem.W.XL Law.frQ []) (Yf:=zf.obs $H) (Ya:=zf.val $H)
      (YP:=zf.says $H) (N:=5558) ?hl (zf.of $H) (zf.keeps $H) (fun s e=>PySem.W.xl_of s (Bool.and_eq_true_iff.mp e).1) PySem.W.XL.keeps (by rfl) (by rfl) (by rfl)
      (fun s e=>PySem.W.recFacts_of (Bool.and_eq_true_iff.mp e).2) (by rfl) (by first | assumption | decide +kernel) (by decide +kernel) ⟨rfl,rfl,rfl,rfl,rfl,by decide +kernel⟩ ?hw ?hc)
open PySem PySem.W in
theorem Law.frK (h0:∀ {α:Type} (Yf:Shared->α) (Ya:World->α),LeftO (OpenLaw.row PySem.Challenge.rw_depot_k23_whole_no_grain_lost).prog Law.frQ [] Law.frX Yf Ya 5558)
    (h1:∀ YP d,WalkO Law.frQ [] (XL Law.frQ []) YP (OpenRow.toRowW (OpenLaw.row PySem.Challenge.rw_depot_k23_whole_no_grain_lost)) d [] (fun f vs=>PySem.call f vs)):OpenLaw.Holds PySem.Challenge.rw_depot_k23_whole_no_grain_lost:=by
  w_on;o_law;k_head
  case hl=>exact h0 _ _
  case hw=>w_witness2
  exact h1 _ _
noncomputable abbrev Law.frA:List Nat:=[2,3,15,22,23,24,25,28,35,36,37,40,47,48,49,52,59,60,61,64,71,72,73,76,83,84,85,88,95,96,97,100,102,103,105,106,107,109,110,112,113,114,116,117,119,120,121,123,124,126,127,128,130,131,133,134,135,137,138,140,141,142,144,145,147,148,149,151,152,154,155,156,158,159,161,162,163,165,166,168,169,170,172,173,175,176,184,185,187,188,190,191,192,194,195,197,198,199,201,202,204,205,206,208,209,211,212,213,215,216,218,219,220,222,223,225,226,227,229,230,232,233,234,237,238,239,241,242,244,245,246,248,249,251,252,253,255,256,258,259,260,261,262,263,264,267,269,270,272,273,274,276,277,279,280,281,284,285,286,288,289,291,292,293,295,296,298,299,300,302,303,305,306,307,310,311,312,314,315,317,318]
theorem Law.frE:∀ P,Law.frA=(Law.frK.heap_39 P).map (·.1):=fun _=>by kernel_rfl
open PySem PySem.W in
theorem Law.frL:LeftO (OpenLaw.row PySem.Challenge.rw_depot_k23_whole_no_grain_lost).prog Law.frQ [] Law.frX (Hook.obs (kHook Law.frK.heap_39 Law.frA Law.frE)) (Hook.val (kHook Law.frK.heap_39 Law.frA Law.frE)) 5558 :=
  Law.frB (by kernel_rfl) (by kernel_rfl) (fun s=>by kernel_rfl) (fun w os=>by kernel_rfl)
namespace L2
open PySem PySem.Spec PyProof.Rows
variable {h:Heap}{a b it l:Addr}{o:Obj}{vs:Array Value}{i:Nat}{us:List Value}{x:Str}
section
structure Tr (B:Heap) (x:Addr) (C fl:Value) (h:Heap):Prop where
  ex:∃ (o:Obj) (vs:Array Value) (T:Addr) (oT:Obj) (ts:Array Value),h.get? x=some o/\o.cls=C/\o.data = .fields vs/\vs[1]?=some (.ref T)/\vs[2]?=some .none/\B.get? T=none/\T≠x/\h.get? T=some oT/\oT.data = .fields ts/\ts[3]?=some fl
structure aeF (B:Heap) (l:List Env) (x:Addr) (C fl:Value) (h:Heap):Prop where
  stays:B.StaysIn h
  new:B.get? x=none
  aB0:h.FunFrames B l
  tr:Tr B x C fl h
noncomputable abbrev Fly (B:Heap) (l:List Env) (x:Addr) (C:Value) (h:Heap):Prop:=aeF B l x C .none h
variable {v:Value}
section
variable {M:Model} {A:Around} {E:Value->Shared->Prop} {s:Shared} {B:Heap} {l:List Env} {env:Env} {outer:List Env} {L x:Addr} {C fl:Value}
theorem aeF.fld (f:aeF B l x C fl h):∃ o vs,h.get? x=some o/\o.cls=C/\o.data = .fields vs/\vs[2]?=some .none:=by
  obtain ⟨o,vs,_,_,_,h1,h2,h3,_,h5,_⟩:=f.tr.ex;exact ⟨o,vs,h1,h2,h3,h5⟩
theorem rR (e:h.get? a=some o) (d:o.data = .fields vs) :
    (h.update a (Obj.mapFields (·.setIfInBounds i v))).get? a=some (Obj.mapFields (·.setIfInBounds i v) o)/\(Obj.mapFields (·.setIfInBounds i v) o).data = .fields (vs.setIfInBounds i v)/\(Obj.mapFields (·.setIfInBounds i v) o).cls=o.cls /\
    (∀ b,b≠a->(h.update a (Obj.mapFields (·.setIfInBounds i v))).get? b=h.get? b):=by
  have d':=Obj.data_mapFields d (·.setIfInBounds i v);exact ⟨vh _ e (Obj.isFreed_of_fields d'),d',Obj.cls_mapFields _ _,fun b hb=>Heap.get?_update_other _ _ (Ne.symm hb)⟩
theorem a1W {u:Obj} (e:h.get? a=some o) (d:o.data = .fields vs) (e2:h.get? b=some u) (n:∀ ws,u.data ≠ .fields ws):b≠a:=fun q=>by
  subst q;rw [e] at e2;cases e2;exact n vs d
variable {Q:Unit->Shared->Prop}
theorem a9D (f:aeF B l x C fl s.heap) (h:∀ h',Fly B l x C h'->s.heap.UpToSlots h'->Q () { s with heap:=h' }):wpAny M A (setFlight (.ref x) none) Q E s:=by
  obtain ⟨st,nw,fu,⟨o,vs,T,oT,ts,e1,e2,e3,e4,e5,e6,e7,e8,e9,e10⟩⟩:=f;unfold setFlight;refine aj (wpAny_field e1 e3 e4 ?_);rw [if_pos (by simp)];have l3:3 < ts.size:=(uc.mp e10).1;obtain ⟨u1,u2,u3,u4⟩:=rR (i:=3) (v:=(none:Option Addr).elim Value.none fun f=>rawInt f) e8 e9;refine wpAny_setField e8 e9 l3 (h _ ⟨fun b u q=>?_,nw,fu.of_keeps fun b u q n=>⟨u,(u4 b (a1W e8 e9 q n)).trans q,rfl⟩,⟨o,vs,T,_,_,(u4 x (Ne.symm e7)).trans e1,e2,e3,e4,e5,e6,e7,u1,u2,?_⟩⟩ fun b u q n=>⟨u.slots,(u4 b (a1W e8 e9 q n)).trans q⟩)
  . exact (u4 b fun z=>by subst z;rw [e6] at q;cases q).trans (st b u q)
  . simp [l3]
theorem agG {head:Value} {hadNext:Bool} (hfr:A.frames=some (env :: outer)) (hf:env.frame=some L) (st:B.StaysIn s.heap) (nw:B.get? x=none) (fu:s.heap.FunFrames B (env :: outer)) (e1:s.heap.get? x=some o) (e2:o.cls=C) (e3:o.data = .fields vs) (e4:1 < vs.size) (e5:vs[2]?=some .none)
    (h:∀ h',aeF B (env :: outer) x C (rawInt L) h'->s.heap.UpToSlots h'->Q () { s with heap:=h' }) :
    wpAny M A (do let a ← frameOf env;let pl ← entryPlaceOf L hadNext;let b ← EntryCells.newEntry head a .none (rawInt L) .none pl;setField (.ref x) 1 b) Q E s:=by
  have nf:x ∉ (env :: outer).filterMap (·.frame):=fun m=>by
    obtain ⟨_,u,hu,hn⟩:=fu.mem m;rw [e1] at hu;cases hu;exact hn vs e3
  refine aj (wpAny_frameOf_fun hfr fu hf fun k so=>aj (wpAny_entryPlaceOf fun pl hpl=>?_));unfold EntryCells.newEntry newFields;refine aj (wpAny_newObj_type ?_ (hpl.sizeOk5 _ _ _ _ _));have k1:k.get? x=some o:=(so.2.1 x nf).trans e1;have tne:k.objs.size≠x:=fun z=>absurd (bh k1) (by rw [z];exact kh _);have kB:∀ b u,B.get? b=some u->k.get? b=some u:=fun b u q=>(so.2.1 b fun m=>by rw [(fu.mem m).1] at q;cases q).trans (st b u q);generalize hT:({ cls := .type "traceback",dict:=none,data := .fields ([head,.ref L,.none,rawInt L,.none]++(if pl.isEmpty then uh 6 Value.none else pl)).toArray }:Obj)=oT;have p1:(k.push oT).get? x=some o:=ao _ k1;obtain ⟨u1,u2,u3,u4⟩:=rR (i:=1) (v := .ref k.objs.size) p1 e3;have keep:∀ b u,b≠x->k.get? b=some u->((k.push oT).update x (Obj.mapFields (·.setIfInBounds 1 (.ref k.objs.size)))).get? b=some u:=fun b u n q=>(u4 b n).trans (ao _ q)
  have pT:(k.push oT).get? k.objs.size=some oT:=by
    subst hT;exact cg k rfl
  refine wpAny_setField p1 e3 e4 (h _ ⟨fun b u q=>keep b u (fun z=>by subst z;rw [nw] at q;cases q) (kB b u q),nw,fu.of_keeps fun b u q n=>?_,⟨_,_,k.objs.size,oT,_,u1,u3.trans e2,u2,?_,?_,?_,tne,(u4 _ tne).trans pT,by rw [← hT],?_⟩⟩ fun b u q n=>?_)
  . obtain ⟨sl,z⟩:=so.2.2 b u q;exact ⟨_,keep b _ (a1W e1 e3 q n) z,rfl⟩
  . simp [e4]
  . rw [Array.getElem?_setIfInBounds_ne (by decide)];exact e5
  . cases q:B.get? k.objs.size with
    | none=>rfl
    | some u=>exact absurd (bh (kB _ u q)) (kh _)
  . first | (simp;done) | (rcases hpl with rfl | ⟨_,_,_,_,_,_,_,rfl⟩ <;> simp)
  . obtain ⟨sl,z⟩:=so.2.2 b u q;exact ⟨sl,keep b _ (a1W e1 e3 q n) z⟩
theorem alL (hfr:A.frames=some (env :: outer)) (hf:env.frame=some L) (f:Fly B (env :: outer) x C s.heap) (h:∀ h',aeF B (env :: outer) x C (rawInt L) h'->s.heap.UpToSlots h'->Q () { s with heap:=h' }):wpAny M A (noteFrame (.ref x) env) Q E s:=by
  obtain ⟨st,nw,fu,⟨o,vs,T,oT,ts,e1,e2,e3,e4,e5,e6,e7,e8,e9,e10⟩⟩:=f;unfold noteFrame;simp only [hf];refine aj (wpAny_field e1 e3 e4 ?_);rw [if_pos (by simp)];refine aj (wpAny_field e8 e9 e10 ?_);rw [if_neg (by simp [rawInt])];have l3:3 < ts.size:=(uc.mp e10).1;obtain ⟨u1,u2,u3,u4⟩:=rR (i:=3) (v := .none) e8 e9;refine aj (wpAny_setField e8 e9 l3 ?_);refine agG hfr hf (fun b u q=>(u4 b fun z=>by subst z;rw [e6] at q;cases q).trans (st b u q)) nw (fu.of_keeps fun b u q n=>⟨u,(u4 b (a1W e8 e9 q n)).trans q,rfl⟩) ((u4 x (Ne.symm e7)).trans e1) e2 e3 (uc.mp e4).1 e5 fun h' f' up=>h h' f' ?_;exact fun b u q n=>up b u ((u4 b (a1W e8 e9 q n)).trans q) n
theorem aeF.tail (f:aeF B (env :: outer) x C fl h):aeF B outer x C fl h:=by
  obtain ⟨st,nw,⟨_,_,fu⟩,tr⟩:=f;exact ⟨st,nw,fu,tr⟩
theorem apM (hfr:A.frames=some (env :: outer)) (hf:env.frame=some L) (f:Fly B (env :: outer) x C s.heap) (h:∀ h',Fly B outer x C h'->s.heap.UpToSlots h'->Q () { s with heap:=h' }):wpAny M A (leaving env (.ref x)) Q E s:=by
  unfold leaving;refine aj (alL hfr hf f fun h1 f1 up1=>a9D f1 fun h2 f2 up2=>?_);exact h h2 f2.tail (up1.trans up2)
theorem ajN {h0:Heap} (hfr:A.frames=some (env :: outer)) (hf:env.frame=some L) (st:B.StaysIn h0) (fu:h0.FunFrames B (env :: outer)) (hm:a0c h0 s.heap x C us) (h:∀ h',Fly B outer x C h'->s.heap.UpToSlots h'->Q () { s with heap:=h' }):wpAny M A (leaving env (.ref x)) Q E s:=by
  obtain ⟨t,e1,_,_⟩:=hm.there;unfold leaving noteFrame;simp only [hf];refine aj (aj (wpAny_field (vs:=#[.ref t,.none,.none,.none,.bool false,.none]) (i:=1) e1 rfl rfl ?_));rw [if_neg (by simp)]
  have nw:B.get? x=none:=by
    cases q:B.get? x with
    | none=>rfl
    | some u=>have:=st x u q;rw [hm.new] at this;cases this
  refine agG hfr hf (fun b u q=>hm.keeps b u (st b u q)) nw (fu.of_keeps fun b u q _=>⟨u,hm.keeps b u q,rfl⟩) e1 rfl rfl (by simp) rfl fun h1 f1 up1=>a9D f1 fun h2 f2 up2=>?_;exact h h2 f2.tail (up1.trans up2)
end
noncomputable def acC (A:Around) (h:Heap):Prop:=A.handled=none∨∃ x o vs,A.handled=some (.ref x)/\h.get? x=some o/\o.data = .fields vs/\vs[2]?=some .none
theorem acD:entryFor table "proto.unchain" = some Builtin.«proto.unchain» := entryFor_of_fast (by kernel_rfl)
variable {Q:Option Value->Shared->Prop}
section
variable {prog:Program} {w:World} {A:Around} {E:Value->Shared->Prop} {s:Shared}
theorem anG {α:Type} {Q:α->Shared->Prop} {oa:Obj} {ws:Array Value} (hq:acC A s.heap) (ea:s.heap.get? a=some oa) (da:oa.data = .fields ws) (la:2 < ws.size) (na:∀ x,A.handled=some (.ref x)->x≠a)
    (h:∀ h',(∀ b,b≠a->h'.get? b=s.heap.get? b)->(∃ o,h'.get? a=some o/\o.cls=oa.cls)->E (.ref a) { s with heap:=h' }):wpAny (model prog w) A (raiseNew (.ref a):Sem α) Q E s:=by
  unfold raiseNew;refine aj (wpAny_handled ?_);rcases hq with hn | ⟨x,o,vs,hx,ex,dx,vx⟩
  . rw [hn];exact aj (aq (wpAny_throw (h s.heap (fun _ _=>rfl) ⟨oa,ea,rfl⟩)))
  . rw [hx];have ne:=na x hx;show wpAny (model prog w) _ (if ((Value.ref x) != (Value.ref a))=true then _ else _) _ _ _;rw [if_pos (by simpa using ne)];refine aj (wpAny_holding (wpAny_runValue (codeAny_builtin acD ?_)));show wpAny (model prog w) _ (field (.ref x) 2 >>= _) _ _ _;refine aj (wpAny_field ex dx vx ?_);show wpAny (model prog w) _ (if ((Value.none:Value) == Value.none)=true then _ else _) _ _ _;rw [if_pos (by decide)];refine aj (aq (aq ?_));obtain ⟨u1,u2,u3,u4⟩:=rR (i:=2) (v := .ref x) ea da;show wpAny (model prog w) _ (setField (.ref a) 2 (.ref x) >>= _) _ _ _;exact aj (wpAny_setField ea da la (wpAny_throw (h _ u4 ⟨_,u1,u3⟩)))
theorem sZ {α:Type} {Q:α->Shared->Prop} (hq:acC A s.heap) (h:∀ a h',(∀ b o,s.heap.get? b=some o->h'.get? b=some o)->(∃ o,h'.get? a=some o/\o.cls = .type "StopIteration")->E (.ref a) { s with heap:=h' }) :
    wpAny (model prog w) A (newExc (.type "StopIteration") [] >>= fun e=>(raiseNew e:Sem α)) Q E s:=by
  refine aj ?_;unfold newExc newTuple;refine aj (wpAny_newObj_type (aj (wpAny_of_eq (a:=Value.none) (by simp only [firstArgMember];rfl) (wpAny_newObj_type ?_ (by size_fits)))) (by size_fits));generalize hh:s.heap.push { cls := .type "tuple",data := .seq ([]:List Value).toArray }=h1;generalize ho:({ cls := .type "StopIteration",data := .fields (#[.ref s.heap.objs.size,.none,.none,.none,.bool false,.none]++ownMembersOf (.type "StopIteration") []) }:Obj)=o1;have k1:∀ b o,s.heap.get? b=some o->(h1.push o1).get? b=some o:=fun b o e=>ao _ (hh ▸ ao _ e)
  have ea:(h1.push o1).get? h1.objs.size=some o1:=by
    subst ho;exact cg h1 rfl
  have old:∀ b o,s.heap.get? b=some o->b≠h1.objs.size:=fun b o e z=>by
    have l1:b < h1.objs.size:=by
      rw [← hh,a0d];exact vf (bh e)
    exact absurd l1 (by rw [z];exact kh _)
  refine anG (ws:=#[.ref s.heap.objs.size,.none,.none,.none,.bool false,.none]++ownMembersOf (.type "StopIteration") []) ?_ ea (by rw [← ho]) (by simp [ownMembersOf]) (fun x hx=>?_) fun h' k c=>h h1.objs.size h' (fun b o e=>(k b (old b o e)).trans (k1 b o e)) ?_
  . rcases hq with z | ⟨x,o,vs,a1,a2,a3⟩
    . exact .inl z
    . exact .inr ⟨x,o,vs,a1,k1 _ _ a2,a3⟩
  . rcases hq with z | ⟨x',o,vs,a1,a2,a3⟩
    . rw [z] at hx;cases hx
    . rw [a1] at hx;cases hx;exact old _ _ a2
  . obtain ⟨o,e,c⟩:=c;exact ⟨o,e,by rw [c,← ho]⟩
theorem wL {T id:String} {b:Builtin} (slot:Slot T (Str.ofString "__next__") id) (entry:entryFor table id=some b) (hT:s.TypeIs (.ref it) T) (args:argsOk id ⟨[.ref it],[]⟩)
    (hb:wpAny (model prog w) A.in1 (b ⟨[.ref it],[]⟩) (fun _ _=>False) (fun e s'=>∃ a o,e = .ref a/\s'.heap.get? a=some o/\o.cls = .type "StopIteration" /\ Q none s') s):wpAny (model prog w) A (pyNext (.ref it)) Q E s:=by
  unfold pyNext;refine aj (wpAny_attempt (wpAny_callSpecial?_slot hT slot (wpAny_call_entry slot hT entry (wpAny_mono hb (fun _ _ z=>z.elim) fun e s' z=>?_) args)));obtain ⟨a,o,rfl,e1,e2,q⟩:=z;exact aj (wpAny_isInstance (T := "StopIteration") (b:=true) ⟨o,e1,e2⟩ isSubtype_stop (aq q))
theorem a9E (hq:acC A s.heap) (e:s.heap.get? it=some o) (d:o.data = .fields vs) (l:vs[2]?≠some .none):acC A (s.heap.update it (Obj.mapFields (·.setIfInBounds i v))):=by
  rcases hq with z | ⟨x,ox,ws,a1,a2,a3,a4⟩
  . exact .inl z
  . refine .inr ⟨x,ox,ws,a1,?_,a3,a4⟩
    have ne:x≠it:=fun z=>by
      subst z;rw [e] at a2;cases a2;rw [d] at a3;cases a3;exact l a4
    exact ((rR e d).2.2.2 x ne).trans a2
theorem anH {items:Array Value} (hq:acC A s.heap) (hit:s.heap.IsListIter it l i) (hl:s.heap.IsList l items) (hx:items[i]?=none)
    (h:∀ h',yp it s.heap h'->Q none { s with heap:=h' }):wpAny (model prog w) A (pyNext (.ref it)) Q E s:=by
  obtain ⟨o,e1,c1,d1⟩:=id hit;obtain ⟨ol,e2,_,nl,d2⟩:=hl;refine wL slot_listiter_next entry_listiter_next hit.typeIs (args_listiter_next _) ?_;show wpAny (model prog w) _ (field (.ref it) 0 >>= _) _ _ s;refine aj (wpAny_field e1 d1 (x := .ref l) rfl ?_);show wpAny (model prog w) _ (field (.ref it) 1 >>= _) _ _ s;refine aj (wpAny_field e1 d1 (x := .int i 0) rfl ?_);show wpAny (model prog w) _ (seqItems? (.ref l) >>= _) _ _ s;refine aj (wpAny_seqItems e2 d2 ?_);simp only [hx,ud];refine aj (wpAny_rule (aj (wpAny_setField e1 d1 (by simp) ?_)));refine sZ (A:=A.in1) (a9E hq e1 d1 (by simp)) fun a h' k c=>?_;obtain ⟨oa,ea,ca⟩:=c;exact ⟨a,oa,rfl,ea,ca,h h' fun b ob n e=>k b ob (((rR e1 d1).2.2.2 b n).trans e)⟩
theorem apO {items:Array Value} (hq:acC A s.heap) (hit:s.heap.IsTupleIter it l i) (hl:s.heap.IsTuple l items) (hx:items[i]?=none)
    (h:∀ h',yp it s.heap h'->Q none { s with heap:=h' }):wpAny (model prog w) A (pyNext (.ref it)) Q E s:=by
  obtain ⟨o,e1,c1,d1⟩:=id hit;obtain ⟨ol,e2,_,nl,d2⟩:=hl;refine wL F.slot_tuple_iterator_next F.entry_tuple_iterator_next hit.typeIs (F.args_tuple_iterator_next_1 _) ?_;show wpAny (model prog w) _ (field (.ref it) 0 >>= _) _ _ s;refine aj (wpAny_field e1 d1 (x := .ref l) rfl ?_);show wpAny (model prog w) _ (field (.ref it) 1 >>= _) _ _ s;refine aj (wpAny_field e1 d1 (x := .int i 0) rfl ?_);show wpAny (model prog w) _ (seqItems? (.ref l) >>= _) _ _ s;refine aj (wpAny_seqItems e2 d2 ?_);simp only [hx,ud];refine aj (wpAny_rule (aj (wpAny_setField e1 d1 (by simp) ?_)));refine sZ (A:=A.in1) (a9E hq e1 d1 (by simp)) fun a h' k c=>?_;obtain ⟨oa,ea,ca⟩:=c;exact ⟨a,oa,rfl,ea,ca,h h' fun b ob n e=>k b ob (((rR e1 d1).2.2.2 b n).trans e)⟩
theorem apP {x left step:Int} (hq:acC A s.heap) (hit:IsRangeIter s.heap it x left step) (hleft:left<=0)
    (h:∀ h',yp it s.heap h'->Q none { s with heap:=h' }):wpAny (model prog w) A (pyNext (.ref it)) Q E s:=by
  refine wL F.slot_range_iterator_next F.entry_range_iterator_next ⟨_,hit,rfl⟩ (F.args_range_iterator_next_1 _) ?_;show wpAny (model prog w) _ (field (.ref it) 0 >>= _) _ _ s;refine aj (wpAny_field hit rfl (i:=0) rfl ?_);show wpAny (model prog w) _ (field (.ref it) 1 >>= _) _ _ s;refine aj (wpAny_field hit rfl (i:=1) rfl ?_);show wpAny (model prog w) _ (field (.ref it) 2 >>= _) _ _ s;refine aj (wpAny_field hit rfl (i:=2) rfl ?_);show wpAny (model prog w) _ (if left<=0 then _ else _) _ _ s;rw [if_pos hleft];refine aj (wpAny_rule (aj ?_));refine sZ (A:=A.in1) hq fun a h' k c=>?_;obtain ⟨oa,ea,ca⟩:=c;exact ⟨a,oa,rfl,ea,ca,h h' fun b ob n e=>k b ob e⟩
theorem anI {t:Tok} (hq:acC A s.heap) (hit:s.heap.IsStrIter it "str_ascii_iterator" x t i) (hx:x.cps[i]?=none)
    (h:∀ h',yp it s.heap h'->Q none { s with heap:=h' }):wpAny (model prog w) A (pyNext (.ref it)) Q E s:=by
  obtain ⟨o,e1,c1,d1⟩:=id hit;refine wL F.slot_str_ascii_iterator_next F.entry_str_ascii_iterator_next hit.typeIs (F.args_str_ascii_iterator_next_1 _) ?_;show wpAny (model prog w) _ (field (.ref it) 0 >>= _) _ _ s;refine aj (wpAny_field e1 d1 (x := .str x t) rfl ?_);show wpAny (model prog w) _ (field (.ref it) 1 >>= _) _ _ s;refine aj (wpAny_field e1 d1 (x := .int i 0) rfl ?_);simp only [hx,ud];refine aj (wpAny_rule (aj (wpAny_setField e1 d1 (by simp) (aj (wpAny_letGo ?_)))));refine sZ (A:=A.in1) (a9E hq e1 d1 (by simp)) fun a h' k c=>?_;obtain ⟨oa,ea,ca⟩:=c;exact ⟨a,oa,rfl,ea,ca,h h' fun b ob n e=>k b ob (((rR e1 d1).2.2.2 b n).trans e)⟩
theorem anJ {t:Tok} (hq:acC A s.heap) (hit:s.heap.IsStrIter it "str_iterator" x t i) (hx:x.cps[i]?=none)
    (h:∀ h',yp it s.heap h'->Q none { s with heap:=h' }):wpAny (model prog w) A (pyNext (.ref it)) Q E s:=by
  obtain ⟨o,e1,c1,d1⟩:=id hit;refine wL F.slot_str_iterator_next F.entry_str_iterator_next hit.typeIs (F.args_str_iterator_next_1 _) ?_;show wpAny (model prog w) _ (field (.ref it) 0 >>= _) _ _ s;refine aj (wpAny_field e1 d1 (x := .str x t) rfl ?_);show wpAny (model prog w) _ (field (.ref it) 1 >>= _) _ _ s;refine aj (wpAny_field e1 d1 (x := .int i 0) rfl ?_);simp only [hx,ud];refine aj (wpAny_rule (aj (wpAny_setField e1 d1 (by simp) (aj (wpAny_letGo ?_)))));refine sZ (A:=A.in1) (a9E hq e1 d1 (by simp)) fun a h' k c=>?_;obtain ⟨oa,ea,ca⟩:=c;exact ⟨a,oa,rfl,ea,ca,h h' fun b ob n e=>k b ob (((rR e1 d1).2.2.2 b n).trans e)⟩
end
end
section
noncomputable abbrev Key:=Sum Int Str
noncomputable def a87:Key->Value->Bool
  | .inl k,v=>Value.isInt k v
  | .inr x,v=>Value.isStrOf x v
noncomputable def aLQ (w:World):Key->Int
  | .inl k=>hashInt k
  | .inr x=>hashStr w x
theorem d9:∀ {k:Key} {v:Value},a87 k v=true->(∃ i t,k=Sum.inl i/\v=Value.int i t)∨(∃ x t,k=Sum.inr x/\v=Value.str x t)
  | .inl i,v,h=>by
    obtain ⟨t,e⟩:=Value.isInt_shape (k:=i) (v:=v) h;exact .inl ⟨i,t,rfl,e⟩
  | .inr x,v,h=>by
    obtain ⟨t,e⟩:=Value.isStrOf_shape (x:=x) (v:=v) h;exact .inr ⟨x,t,rfl,e⟩
theorem anK (i:Int) (t:Tok):a87 (.inl i) (.int i t)=true:=by simp [a87,Value.isInt]
theorem anL (x:Str) (t:Tok):a87 (.inr x) (.str x t)=true:=by simp [a87,Value.isStrOf]
theorem aB1 (a b:Int):decide ((Sum.inl a:Key)=Sum.inl b)=(a == b):=by
  by_cases e:a=b
  . subst e;simp
  . have h:¬ (Sum.inl a:Key)=Sum.inl b:=fun q=>e (Sum.inl.inj q);rw [decide_eq_false h];exact (beq_eq_false_iff_ne.mpr e).symm
theorem aB2 (a b:Str):decide ((Sum.inr a:Key)=Sum.inr b)=decide (a=b):=by
  by_cases e:a=b
  . subst e;simp
  . have h:¬ (Sum.inr a:Key)=Sum.inr b:=fun q=>e (Sum.inr.inj q);rw [decide_eq_false h,decide_eq_false e]
theorem aB3 (a:Int) (b:Str):decide ((Sum.inl a:Key)=Sum.inr b)=false:=decide_eq_false (fun q=>nomatch q)
theorem aB4 (a:Str) (b:Int):decide ((Sum.inr a:Key)=Sum.inl b)=false:=decide_eq_false (fun q=>nomatch q)
noncomputable def aP (prog:Program) (w:World):PySem.KeyKind prog w Key where
  is:=a87
  hash:=aLQ w
  inj:=fun v a b ha hb=>by
    rcases d9 ha with ⟨i,t,rfl,rfl⟩ | ⟨x,t,rfl,rfl⟩
    . rcases d9 hb with ⟨j,u,rfl,e⟩ | ⟨y,u,rfl,e⟩
      . injection e with e1 _;rw [e1]
      . exact nomatch e
    . rcases d9 hb with ⟨j,u,rfl,e⟩ | ⟨y,u,rfl,e⟩
      . exact nomatch e
      . injection e with e1 _;rw [e1]
  byValue:=fun k v h=>by
    rcases d9 h with ⟨i,t,rfl,rfl⟩ | ⟨x,t,rfl,rfl⟩ <;> rfl
  pyHash:=fun hv h=>by
    rcases d9 hv with ⟨i,t,rfl,rfl⟩ | ⟨x,t,rfl,rfl⟩
    . exact wpAny_pyHash_int h
    . exact wpAny_pyHash_str h
  eqBool:=fun hu hv h=>by
    rcases d9 hu with ⟨i,t,rfl,rfl⟩ | ⟨x,t,rfl,rfl⟩
    . rcases d9 hv with ⟨j,u,rfl,rfl⟩ | ⟨y,u,rfl,rfl⟩
      . rw [aB1] at h;exact wpAny_eqBool_int h
      . rw [aB3] at h;exact SeqAt.EqAt.int_str i t y u _ _ _ _ h
    . rcases d9 hv with ⟨j,u,rfl,rfl⟩ | ⟨y,u,rfl,rfl⟩
      . rw [aB4] at h;exact SeqAt.EqAt.str_int x t j u _ _ _ _ h
      . rw [aB2] at h;exact wpAny_eqBool_str h
  «strs» := fun k x t v h=>by
    rcases d9 h with ⟨i,u,rfl,e⟩ | ⟨y,u,rfl,e⟩
    . exact nomatch e
    . injection e with e1 _;subst e1;cases v <;> rfl
theorem agH (prog:Program) (w:World) (i:Int) (t:Tok):(aP prog w).is (.inl i) (.int i t)=true:=anK i t
theorem agI (prog:Program) (w:World) (x:Str) (t:Tok):(aP prog w).is (.inr x) (.str x t)=true:=anL x t
end
variable {P:Program}
section
inductive V where
  | non | bl (b:Bool) | int (i:Int) | str (x:Str) | byt (b:Array UInt8) | flt (b:UInt64) | ref (a:Addr) | ty (n:String)
  deriving DecidableEq
noncomputable def RelV:V->Value->Prop
  | .non,u=>u=Value.none
  | .bl b,u=>u=Value.bool b
  | .int i,u=>∃ t,u=Value.int i t
  | .str x,u=>∃ t,u=Value.str x t
  | .byt b,u=>∃ t,u=Value.bytes b t
  | .flt b,u=>∃ t,u=Value.float b t
  | .ref a,u=>u=Value.ref a
  | .ty n,u=>u=Value.type n
noncomputable abbrev Vals:List V->List Value->Prop:=Paired RelV
theorem Vals.length {xs:List V} {us:List Value} (r:Vals xs us):xs.length=us.length:=Paired.length r
theorem Vals.get:∀ {xs:List V} {us:List Value} {i:Nat} {x:V},Vals xs us->xs[i]?=some x->∃ u,us[i]?=some u/\RelV x u
  | _,_,_,_,.nil,e=>by simp at e
  | _,_,0,_,.cons r _,e=>by simp at e;subst e;exact ⟨_,rfl,r⟩
  | _,_,i+1,x,.cons _ t,e=>by
    obtain ⟨u,h1,h2⟩:=Vals.get (i:=i) (x:=x) t (by simpa using e);exact ⟨u,by simpa using h1,h2⟩
theorem Vals.set {x:V} {u:Value} (r:RelV x u):∀ {xs:List V} {us:List Value} (i:Nat),Vals xs us->Vals (xs.set i x) (us.set i u)
  | _,_,_,.nil => .nil
  | _,_,0,.cons _ t => .cons r t
  | _,_,i+1,.cons q t => .cons q (Vals.set r i t)
theorem Vals.append:∀ {xs ys:List V} {us ws:List Value},Vals xs us->Vals ys ws->Vals (xs++ys) (us++ws)
  | _,_,_,_,.nil,s=>s
  | _,_,_,_,.cons r t,s => .cons r (Vals.append t s)
theorem Vals.take:∀ {xs:List V} {us:List Value} (n:Nat),Vals xs us->Vals (xs.take n) (us.take n)
  | _,_,0,_ => .nil
  | _,_,_+1,.nil => .nil
  | _,_,n+1,.cons r t => .cons r (Vals.take n t)
theorem Vals.drop:∀ {xs:List V} {us:List Value} (n:Nat),Vals xs us->Vals (xs.drop n) (us.drop n)
  | _,_,0,r=>r
  | _,_,_+1,.nil => .nil
  | _,_,n+1,.cons _ t=>Vals.drop n t
theorem Vals.none_of:∀ {xs:List V} {us:List Value} {i:Nat},Vals xs us->xs[i]?=none->us[i]?=none:=fun {xs us i} r e=>by
  have h1:=r.length;have h2:xs.length<=i:=List.getElem?_eq_none_iff.mp e;exact List.getElem?_eq_none_iff.mpr (by omega)
noncomputable def yI:Option V->Option Value->Prop
  | some v,some u=>RelV v u
  | none,none=>True
  | _,_=>False
noncomputable def KV {κ:Type}:List (κ×V)->List (κ×Value)->Prop:=Paired fun (p:κ×V) (q:κ×Value)=>p.1=q.1/\RelV p.2 q.2
noncomputable def kV:Key->V
  | .inl i => .int i
  | .inr x => .str x
inductive HO where
  | lst (xs:List V)
  | tup (xs:List V)
  | dK (kvs:List (Key×V)) | dT (kvs:List (List Key×V))
  | set (S:Int->Bool) (n:Nat)
  | ins (C dx:Addr) (fs:List (Str×V))
  | own (x:Addr)
  | xd (fs:List (Str×V))
  | met (f x:Addr)
  | rng (lo hi:Int)
  | lW (o:Obj) (u:HO)
  | tbl (ps:Array Value)
  | ext (φ:Heap->Prop)
noncomputable abbrev Hp:=Addr->Option HO
noncomputable def upd (H:Hp) (a:Addr) (o:HO):Hp:=fun b=>if b=a then some o else H b
variable {H:Hp}
theorem aJ {o:HO}:upd H a o a=some o:=by unfold upd;rw [if_pos rfl]
theorem aX {o:HO} (h:b≠a):upd H a o b=H b:=by unfold upd;rw [if_neg h]
variable {u:HO}
theorem apQ {o:HO} (h:H a=some o) (h':H b=some u) (d:o≠u):a≠b:=by
  intro e;subst e;rw [h] at h';exact d (gk.inj h')
theorem oO {o:HO} (h:H a=some o) (h':H b=none):a≠b:=by
  intro e;subst e;rw [h] at h';cases h'
section
variable (P:Program) (w:World)
noncomputable def gQ (H:Hp) (h:Heap) (a:Addr):HO->Prop
  | .lst xs=>xs.length<=sizeLine/\∃ (its:List Value) (n:Nat),Vals xs its/\h.get? a=some { cls := .type "list",data := .seq its.toArray n }
  | .tup xs=>xs.length<=sizeLine/\∃ its:List Value,Vals xs its/\IsTup h a its.toArray
  | .dK kvs=>kvs.length<=sizeLine/\(a == sysModules)=false/\∃ vs,KV kvs vs/\h.DictOf (aP P w) a vs
  | .dT kvs=>kvs.length<=sizeLine/\(a == sysModules)=false/\∃ xs:List (List Key×Addr×Value),
      Paired (fun (p:List Key×V) (q:List Key×Addr×Value)=>p.1=q.1/\H q.2.1=some (.tup (p.1.map kV))/\RelV p.2 q.2.2) kvs xs /\
      ∃ o es ep,h.get? a=some o/\o.ExactDict/\o.data = .dict es ep/\es.toList=xs.map (entryOfKey (tupleKind (aP P w)))/\(xs.map (·.1)).Nodup
  | .set S n=>h.SetOf (intKind P w) a S n
  | .ins C dx fs=>H dx=some (.own a)/\fs.length<=1000/\dx≠a/\h.get? a=some (qx C dx) /\
      ∃ mA,h.Ns1 dx mA/\(∀ f,yI (fs.lookup f) (mA f))/\PySem.Within mA (fs.map (·.1))
  | .own _=>∃ o,h.get? a=some o
  | .xd fs=>∃ mA,h.Ns1 a mA/\∀ f,yI (fs.lookup f) (mA f)
  | .rng lo hi=>∃ t u v,h.get? a=some { cls := .type "range",data := .fields #[.int lo t,.int hi u,.int 1 v] }
  | .lW o u=>h.get? a=some o/\gQ H h a u
  | .tbl ps=>h.get? a=some { cls := .none,data := .fields ps }
  | .met f x=>h.get? a=some (PySem.W.methodObj (.ref f) (.ref x))
  | .ext φ=>φ h/\(∃ o,h.get? a=some o)/\∀ h1 h2:Heap,φ h1->(∀ o,h1.get? a=some o->h2.get? a=some o)->φ h2
noncomputable def HOk (H:Hp) (h:Heap):Prop:=∀ a o,H a=some o->gQ P w H h a o
end
section
variable {P:Program} {w:World} {H H':Hp} {h h':Heap} {a:Addr} {o:HO}
theorem gQ.lt (x:gQ P w H h a o):a < h.objs.size:=by
  cases o with
  | lst xs=>obtain ⟨_,_,_,_,e⟩:=x;exact bh e
  | tup xs=>obtain ⟨_,_,_,p⟩:=x;exact p.lt
  | dK kvs=>obtain ⟨_,_,_,_,o,_,_,e,_⟩:=x;exact bh e
  | dT kvs=>obtain ⟨_,_,_,_,o,_,_,e,_⟩:=x;exact bh e
  | set S n=>obtain ⟨o,_,_,_,e,_⟩:=x;exact bh e
  | ins C dx fs=>obtain ⟨_,_,_,e,_⟩:=x;exact bh e
  | own y=>obtain ⟨_,e⟩:=x;exact bh e
  | xd fs=>obtain ⟨_,⟨_,_,_,e,_⟩,_⟩:=x;exact bh e
  | rng lo hi=>obtain ⟨_,_,_,e⟩:=x;exact bh e
  | lW ob u=>obtain ⟨e,_⟩:=x;exact bh e
  | tbl ps=>exact bh (show h.get? a=some _ from x)
  | met f y=>exact bh (show h.get? a=some _ from x)
  | ext φ=>obtain ⟨_,⟨_,e⟩,_⟩:=x;exact bh e
theorem Paired.aB5 {α β:Type} {F G:α->β->Prop}:∀ {l₁:List α} {l₂:List β},Paired F l₁ l₂->(∀ a b,F a b->G a b)->Paired G l₁ l₂
  | _,_,.nil,_ => .nil
  | _,_,.cons r t,f => .cons (f _ _ r) (Paired.aB5 t f)
theorem gQ.stay (x:gQ P w H h a o) (k:∀ b u,(b=a∨H b=some (.own a))->h.get? b=some u->h'.get? b=some u)
    (ho:∀ b,H b=some (.own a)->H' b=some (.own a)) (ht:∀ b xs,H b=some (.tup xs)->H' b=some (.tup xs)):gQ P w H' h' a o:=by
  induction o with
  | lst xs=>obtain ⟨z,its,n,r,e⟩:=x;exact ⟨z,its,n,r,k _ _ (.inl rfl) e⟩
  | tup xs=>obtain ⟨z,its,r,ob,e,c⟩:=x;exact ⟨z,its,r,ob,k _ _ (.inl rfl) e,c⟩
  | dK kvs=>obtain ⟨z,y,vs,r,ob,es,ep,e,c⟩:=x;exact ⟨z,y,vs,r,ob,es,ep,k _ _ (.inl rfl) e,c⟩
  | dT kvs =>
    obtain ⟨z,y,xs,r,ob,es,ep,e,c⟩:=x;exact ⟨z,y,xs,Paired.aB5 r fun p q z=>⟨z.1,ht _ _ z.2.1,z.2.2⟩,ob,es,ep,k _ _ (.inl rfl) e,c⟩
  | set S n=>obtain ⟨ob,es,ep,t,e,c⟩:=x;exact ⟨ob,es,ep,t,k _ _ (.inl rfl) e,c⟩
  | ins C dx fs =>
    obtain ⟨d,z,ne,e,mA,⟨od,es,ep,e2,c⟩,r⟩:=x;exact ⟨ho _ d,z,ne,k _ _ (.inl rfl) e,mA,⟨od,es,ep,k _ _ (.inr d) e2,c⟩,r⟩
  | own y=>obtain ⟨ob,e⟩:=x;exact ⟨ob,k _ _ (.inl rfl) e⟩
  | xd fs=>obtain ⟨mA,⟨od,es,ep,e,c⟩,r⟩:=x;exact ⟨mA,⟨od,es,ep,k _ _ (.inl rfl) e,c⟩,r⟩
  | rng lo hi=>obtain ⟨t,u,v,e⟩:=x;exact ⟨t,u,v,k _ _ (.inl rfl) e⟩
  | lW ob u ih=>obtain ⟨e,q⟩:=x;exact ⟨k _ _ (.inl rfl) e,ih q⟩
  | tbl ps =>
    have e:h.get? a=some { cls := .none,data := .fields ps }:=x;show h'.get? a=some { cls := .none,data := .fields ps };exact k a _ (.inl rfl) e
  | met f y =>
    have e:h.get? a=some (PySem.W.methodObj (.ref f) (.ref y)):=x;show h'.get? a=some (PySem.W.methodObj (.ref f) (.ref y));exact k a _ (.inl rfl) e
  | ext φ=>obtain ⟨p,⟨o,e⟩,st⟩:=x;exact ⟨st _ _ p fun o q=>k _ _ (.inl rfl) q,⟨o,k _ _ (.inl rfl) e⟩,st⟩
theorem HOk.lt (x:HOk P w H h) (e:H a=some o):a < h.objs.size:=(x a o e).lt
theorem HOk.fresh (x:HOk P w H h) (e:h.objs.size<=a):H a=none:=by
  cases q:H a with
  | none=>rfl
  | some u=>exact absurd (dz (x.lt q) e) (kh _)
theorem HOk.kept (x:HOk P w H h) (k:∀ b u,h.get? b=some u->h'.get? b=some u):HOk P w H h':=fun a o e =>
  (x a o e).stay (fun b u _ q=>k b u q) (fun _ q=>q) fun _ _ q=>q
theorem HOk.laid (x:HOk P w H h) (k:∀ b u,h.get? b=some u->h'.get? b=some u) (hp:h.objs.size<=a) (new:gQ P w (upd H a o) h' a o):HOk P w (upd H a o) h':=fun b u e=>by
  have hn:=x.fresh hp;by_cases hb:b=a
  . subst hb;rw [aJ] at e;cases e;exact new
  . rw [aX hb] at e;exact (x b u e).stay (fun c v _ q=>k c v q) (fun c q=>by rw [aX (oO q hn)];exact q) fun c xs q=>by rw [aX (oO q hn)];exact q
end
noncomputable def Rd (H:Hp) (a:Addr) (u:HO):Prop:=H a=some u∨∃ o,H a=some (.lW o u)
theorem Rd.of (h:H a=some u):Rd H a u := .inl h
theorem Rd.ok {w:World} (r:Rd H a u) (x:HOk P w H h):gQ P w H h a u:=by
  rcases r with r | ⟨o,r⟩
  . exact x a u r
  . obtain ⟨_,q⟩:=x a _ r;exact q
noncomputable def Mut:Option HO->Prop
  | some (.lst _)=>True
  | some (.dK _)=>True
  | some (.dT _)=>True
  | some (.set _ _)=>True
  | some (.ins _ _ _)=>True
  | some (.ext _)=>True
  | _=>False
section
variable {P:Program} {w:World} {H:Hp} {h h':Heap} {x e:Addr} {o':HO}
theorem HOk.write (ok:HOk P w H h) (mu:Mut (H x)) (he:e=x∨H e=some (.own x)) (k:∀ b u,b≠e->h.get? b=some u->h'.get? b=some u) (heo:∃ u,h'.get? e=some u)
    (new:gQ P w (upd H x o') h' x o'):HOk P w (upd H x o') h':=fun b u q=>by
  have aGW:∀ c y,H c=some (.own y)->c≠x:=fun c y r z=>by subst z;rw [r] at mu;exact mu
  have aLR:∀ c xs,H c=some (.tup xs)->c≠x:=fun c xs r z=>by subst z;rw [r] at mu;exact mu
  by_cases hb:b=x
  . subst hb;rw [aJ] at q;cases q;exact new
  . rw [aX hb] at q;by_cases hbe:b=e
    . have q':H b=some (.own x):=by
        rcases he with z | z
        . exact absurd (hbe.trans z) hb
        . rw [hbe];exact z
      rw [q] at q';cases q';obtain ⟨v,hv⟩:=heo;exact ⟨v,by rw [hbe];exact hv⟩
    . refine (ok b u q).stay (fun c v hc r=>k c v ?_ r) (fun c r=>by rw [aX (aGW c b r)];exact r) fun c xs r=>by rw [aX (aLR c xs r)];exact r
      rcases hc with rfl | hc
      . exact hbe
      . rintro rfl;rcases he with z | z
        . exact aGW c b hc z
        . rw [hc] at z;cases z;exact hb rfl
end
structure Un (fs ex:List Addr) (H H':Hp) (h h':Heap):Prop where
  keep:∀ b o,h.get? b=some o->H b=none->b ∉ fs->b ∉ ex->h'.get? b=some o
  slot:∀ b o,h.get? b=some o->H b=none->b∈fs->b ∉ ex->∃ sl,h'.get? b=some { o with slots:=sl }
  free:∀ b o,h.get? b=some o->H b=none->b ∉ ex->H' b=none
  there:∀ b o,h.get? b=some o->b ∉ ex->∃ o',h'.get? b=some o'
  tups:∀ b xs,H b=some (.tup xs)->H' b=some (.tup xs)
  m7:∀ b o u,H b=some (.lW o u)->H' b=some (.lW o u)
  uY:∀ b ps,H b=some (.tbl ps)->∃ more,H' b=some (.tbl (ps++more))
section
variable {fs fs' ex ex':List Addr} {H H1 H2:Hp} {h h1 h2 h':Heap} {a x e:Addr} {o:HO}
theorem Un.any (u:Un fs ex H H1 h h1) {ob:Obj} (q:h.get? b=some ob) (n:H b=none) (hx:b ∉ ex):∃ sl,h1.get? b=some { ob with slots:=sl }:=by
  by_cases hb:b∈fs
  . exact u.slot b ob q n hb hx
  . exact ⟨ob.slots,u.keep b ob q n hb hx⟩
theorem Un.trans (a:Un fs ex H H1 h h1) (b:Un fs ex H1 H2 h1 h2):Un fs ex H H2 h h2 where
  keep:=fun c ob q n hc hx=>b.keep c ob (a.keep c ob q n hc hx) (a.free c ob q n hx) hc hx
  slot:=fun c ob q n hc hx=>by
    obtain ⟨sl,e1⟩:=a.slot c ob q n hc hx;obtain ⟨sl',e2⟩:=b.slot c _ e1 (a.free c ob q n hx) hc hx;exact ⟨sl',e2⟩
  free:=fun c ob q n hx=>by
    obtain ⟨o',e1⟩:=a.there c ob q hx;exact b.free c o' e1 (a.free c ob q n hx) hx
  there:=fun c ob q hx=>by
    obtain ⟨o',e1⟩:=a.there c ob q hx;exact b.there c o' e1 hx
  tups:=fun c xs q=>b.tups c xs (a.tups c xs q)
  m7:=fun c ob xs q=>b.m7 c ob xs (a.m7 c ob xs q)
  uY:=fun c ps q=>by
    obtain ⟨m1,e1⟩:=a.uY c ps q;obtain ⟨m2,e2⟩:=b.uY c _ e1;exact ⟨m1++m2,by rw [e2,Array.append_assoc]⟩
theorem Un.kept (k:∀ b u,h.get? b=some u->h'.get? b=some u):Un fs ex H H h h' :=
  ⟨fun b ob q _ _ _=>k b ob q,fun b ob q _ _ _=>⟨ob.slots,k b ob q⟩,fun _ _ _ n _=>n,fun b ob q _=>⟨ob,k b ob q⟩,fun _ _ q=>q,fun _ _ _ q=>q,fun _ ps q=>⟨#[],by rw [q];simp⟩⟩
theorem Un.refl:Un fs ex H H h h:=Un.kept fun _ _ q=>q
theorem Un.laid (k:∀ b u,h.get? b=some u->h'.get? b=some u) (hp:h.objs.size<=a) (hn:H a=none):Un fs ex H (upd H a o) h h' where
  keep:=fun b u q _ _ _=>k b u q
  slot:=fun b u q _ _ _=>⟨u.slots,k b u q⟩
  free:=fun b u q n _=>by rw [aX (dw (dz (bh q) hp))];exact n
  there:=fun b u q _=>⟨u,k b u q⟩
  tups:=fun b xs q=>by rw [aX (oO q hn)];exact q
  m7:=fun b u xs q=>by rw [aX (oO q hn)];exact q
  uY:=fun b ps q=>⟨#[],by rw [aX (oO q hn),q];simp⟩
theorem Un.write (mu:Mut (H x)) (he:e=x∨H e=some (.own x)) (k:∀ b u,b≠e->h.get? b=some u->h'.get? b=some u) (heo:∃ u,h'.get? e=some u):Un fs ex H (upd H x o) h h':=by
  have hx:∀ b,H b=none->b≠x:=fun b n z=>by subst z;rw [n] at mu;exact mu
  have hb:∀ b,H b=none->b≠e:=fun b n z=>by
    subst z;rcases he with r | r
    . exact hx b n r
    . rw [n] at r;cases r
  have hm:∀ b u,H b=some u->¬ Mut (some u)->b≠x:=fun b u q nm z=>by subst z;rw [q] at mu;exact nm mu
  refine ⟨fun b u q n _ _=>k b u (hb b n) q,fun b u q n _ _=>⟨u.slots,k b u (hb b n) q⟩,fun b u q n _=>by rw [aX (hx b n)];exact n,fun b u q _=>?_,
    fun b xs q=>by rw [aX (hm b _ q fun z=>z)];exact q,fun b u xs q=>by rw [aX (hm b _ q fun z=>z)];exact q,fun b ps q=>⟨#[],by rw [aX (hm b _ q fun z=>z),q];simp⟩⟩
  by_cases hbe:b=e
  . subst hbe;exact heo
  . exact ⟨u,k b u hbe q⟩
theorem Un.mono (u:Un fs ex H H1 h h1) (hs:∀ b∈fs,b∈fs') (hx:∀ b∈ex,b∈ex'):Un fs' ex' H H1 h h1 :=
  ⟨fun b ob q n hb he=>u.keep b ob q n (fun z=>hb (hs b z)) fun z=>he (hx b z),fun _ _ q n _ he=>u.any q n fun z=>he (hx _ z),fun b ob q n he=>u.free b ob q n fun z=>he (hx b z),fun b ob q he=>u.there b ob q fun z=>he (hx b z),u.tups,u.m7,u.uY⟩
end
noncomputable def trk (h:Heap) (H:Hp):List Addr:=(ji h.objs.size).filter fun a=>(H a).isSome
noncomputable def aeG (h:Heap) (H:Hp):Heap:=zj h (trk h H)
theorem anN (h:Heap) (H:Hp):(aeG h H).objs.size=h.objs.size:=PySem.W.hideAll_size _ _
theorem apR (e:h.get? b=some o) (n:H b=none):(aeG h H).get? b=some o :=
  PySem.W.hideAll_get _ e fun hm=>by
    have q:(H b).isSome=true:=(uq.mp hm).2;rw [n] at q;simp at q
theorem avD (e:(aeG h H).get? b=some o):h.get? b=some o/\H b=none:=by
  have e':h.get? b=some o:=PySem.W.of_hideAll (trk h H) e;refine ⟨e',?_⟩;cases q:H b with
  | none=>rfl
  | some x =>
    have hm:b∈trk h H:=uq.mpr ⟨rm.mpr (bh e'),by simp [q]⟩;have z:(aeG h H).get? b=none:=PySem.W.hideAll_none (trk h H) hm;rw [z] at e;cases e
noncomputable def avE (g h:Heap) (L:Addr):List (Addr×Obj):=(ji h.objs.size).filterMap fun a=>if a=L∨(g.get? a).isSome=true then none else (h.get? a).map fun o=>(a,o)
noncomputable def rest (g h:Heap) (L d:Addr):List (Addr×Obj):=(avE g h L).filter fun p=>decide (p.1≠d)
end
variable {v:V}{u:Value}{H H':Hp}{A:Around}{g':Array GenState}{t' j:Nat}{d':Drawn}{ch:List Addr}{N:List Str}{M:Model}{E:Value->Shared->Prop}{e:Expr}{s:Shared}
section
structure Mod (K:cu) (mg:Str->Option Value) (base:Heap):Prop where
  kin:K.In base
  glob:base.Ns mainGlobals mg
  blt:∃ mb,base.Ns builtinsNs mb/\∀ x:Str,x ≠ "__name__" -> mb x=bootBuiltins x
  nolimit:base.NoLimit
structure Cx where
  prog:Program
  w:World
  K:cu
  mg:Str->Option Value
  base:Heap
  A:Around
  N:List Str
  s₀:Shared
  H₀:Hp
  env:Env
  outer:List Env
  stack:List Env
  ex:List Addr
  fn:Str->Bool
  calm:Bool
  pn:List (Addr×Obj)
  tp:List (Addr×List V)
  xe:Value->Shared->Prop
noncomputable def frs (l:List Env):List Addr:=l.filterMap (·.frame)
noncomputable abbrev Cx.fs (X:Cx):List Addr:=frs X.outer
noncomputable def Vis (sc:Scope) (x:Str):Prop:=sc.names.lookup x=some .local∨sc.names.lookup x=some .cell∨sc.names.lookup x=some .free
noncomputable def Loc (sc:Scope) (x:Str):Prop:=sc.names.lookup x=some .local∨sc.names.lookup x=some .cell
noncomputable def Look (env:Env) (h:Heap) (m:Str->Option Value) (x:Str) (u:Value):Prop :=
  (env.kindOf x=some .local/\m x=some u)∨((env.kindOf x=some .cell∨env.kindOf x=some .free)/\∃ c,env.cells.lookup x=some c/\h.IsCell c (some u))
structure Cx.Ok (X:Cx):Prop where
  mod:Mod X.K X.mg X.base
  kind:X.env.scope.kind = .function
  glob:X.env.globals=mainGlobals
  blt:X.env.builtins=builtinsNs
  above:X.s₀.heap.objs.size<=X.env.locals
  inj:∀ x y c,X.env.cells.lookup x=some c->X.env.cells.lookup y=some c->x=y
  has:∀ x,(X.env.kindOf x=some .cell∨X.env.kindOf x=some .free)->∃ c,X.env.cells.lookup x=some c
  cab:∀ x c,X.fn x=true->X.env.cells.lookup x=some c->X.s₀.heap.objs.size<=c
  hd:X.calm=true->X.A.handled=none
  frames:X.A.frames=some X.stack
  stk:X.stack=X.outer∨(X.stack=X.env :: X.outer/\X.env.frame=some X.env.locals)
  exf:∀ b∈X.ex,b≠X.env.locals/\∀ x c,X.env.cells.lookup x=some c->c≠b
  bs:∀ b o,X.base.get? b=some o->X.s₀.heap.get? b=some o/\X.H₀ b=none
  bsz:X.base.objs.size<=X.s₀.heap.objs.size
  a8S:∀ b o,X.base.get? b=some o->b ∉ X.ex
  a9Q:∀ b∈X.ex,b ∉ X.fs
  vV:X.s₀.heap.FunFrames X.base X.outer
  frf:∀ b∈X.fs,X.H₀ b=none
noncomputable def Hnd (A:Around) (H:Hp):Prop:=A.handled=none∨∃ x o u vs,A.handled=some (.ref x)/\H x=some (.lW o u)/\o.data = .fields vs/\vs[2]?=some .none
theorem Hnd.mono (h:Hnd A H) (f:∀ b o u,H b=some (.lW o u)->H' b=some (.lW o u)):Hnd A H':=by
  rcases h with z | ⟨x,o,u,vs,a,b,c⟩
  . exact .inl z
  . exact .inr ⟨x,o,u,vs,a,f _ _ _ b,c⟩
theorem Hnd.heap {w:World} (q:Hnd A H) (hok:HOk P w H h):acC A h:=by
  rcases q with z | ⟨x,o,u,vs,a,b,c⟩
  . exact .inl z
  . exact .inr ⟨x,o,vs,a,(hok x _ b).1,c⟩
structure Inv (X:Cx) (pins:List (Addr×Obj)) (σ:List (Option V)) (H:Hp) (s:Shared):Prop where
  ok:X.Ok
  os:s.os=X.s₀.os
  bare:AllBare s.gens
  base:Un X.fs X.ex X.H₀ H X.s₀.heap s.heap
  loc:∃ m,s.heap.Ns X.env.locals m/\∀ (i:Nat) (x:Str) (v:V),X.N[i]?=some x->σ[i]?=some (some v)->Vis X.env.scope x->∃ u,RelV v u/\Look X.env s.heap m x u
  cell:∀ x c,X.env.cells.lookup x=some c->∃ v,s.heap.IsCell c v
  free:H X.env.locals=none
  m8:∀ x c,X.env.cells.lookup x=some c->H c=none
  pin:∀ p∈X.pn++pins,s.heap.get? p.1=some p.2/\H p.1=none/\p.1≠X.env.locals/\p.1 ∉ X.fs/\∀ v,p.2.data ≠ .cell v
  hok:HOk X.prog X.w H s.heap
  len:σ.length=X.N.length
  hnd:Hnd X.A H
  tup:∀ p∈X.tp,H p.1=some (.tup p.2)
variable {Q:Unit->Shared->Prop}
section
variable {X:Cx} {pins:List (Addr×Obj)} {σ:List (Option V)} {H H':Hp} {s:Shared} {h':Heap}
theorem Cx.Ok.aLS (ok:X.Ok) (e:X.base.get? b=some o):b ∉ X.fs:=fun hb=>by
  have:=(ok.vV.mem hb).1;rw [e] at this;cases this
theorem Inv.bs (I:Inv X pins σ H s):∀ b o,X.base.get? b=some o->s.heap.get? b=some o/\H b=none:=fun b o e =>
  ⟨I.base.keep b o (I.ok.bs b o e).1 (I.ok.bs b o e).2 (I.ok.aLS e) (I.ok.a8S b o e),I.base.free b o (I.ok.bs b o e).1 (I.ok.bs b o e).2 (I.ok.a8S b o e)⟩
theorem Inv.bk (I:Inv X pins σ H s):∀ b o,X.base.get? b=some o->s.heap.get? b=some o:=fun b o e=>(I.bs b o e).1
theorem Inv.mod (I:Inv X pins σ H s):Mod X.K X.mg X.base:=I.ok.mod
theorem Inv.kIn (I:Inv X pins σ H s):X.K.In s.heap:=I.ok.mod.kin.keeps I.bk
theorem Inv.nolimit (I:Inv X pins σ H s):s.heap.NoLimit:=I.ok.mod.nolimit.keeps I.bk
theorem Inv.fr (I:Inv X pins σ H s):∃ m,Fr X.base X.env.locals s.heap m :=
  let ⟨m,hn,_⟩:=I.loc
  ⟨m,hn,I.bk,jj I.ok.bsz I.ok.above⟩
theorem Inv.lt (I:Inv X pins σ H s):X.env.locals < s.heap.objs.size:=let ⟨_,hn,_⟩:=I.loc;hn.lt
theorem Inv.sz (I:Inv X pins σ H s):X.s₀.heap.objs.size<=s.heap.objs.size:=jj I.ok.above (qb I.lt)
theorem Inv.aLT (I:Inv X pins σ H s) (h:s.heap.objs.size<=a):a ∉ X.fs:=fun hb=>by
  obtain ⟨_,o,ho,_⟩:=I.ok.vV.mem hb;exact absurd (dz (bh ho) (jj I.sz h)) (kh _)
theorem Inv.cne (I:Inv X pins σ H s):∀ x c,X.env.cells.lookup x=some c->c≠X.env.locals:=fun x c e z=>by
  obtain ⟨v,o,ho,hd⟩:=I.cell x c e;obtain ⟨m,⟨o',es,ep,ho',hd',_⟩,_⟩:=I.loc;rw [z,ho'] at ho;cases ho;rw [hd'] at hd;cases hd
theorem Inv.vV (I:Inv X pins σ H s):s.heap.FunFrames X.base X.outer:=by
  have all:∀ (l:List Env),(∀ b∈frs l,b∈X.fs)->X.s₀.heap.FunFrames X.base l->s.heap.FunFrames X.base l:=by
    intro l
    induction l with
    | nil=>intro _ _;trivial
    | cons env r ih =>
      intro hs hl;obtain ⟨hk,⟨L,o,hf,hn,ho,hd⟩,hr⟩:=hl;have hL:L∈X.fs:=hs L (by unfold frs;rw [zu,hf];exact ur);obtain ⟨sl,e⟩:=I.base.slot L o ho (I.ok.frf L hL) hL fun z=>I.ok.a9Q L z hL;exact ⟨hk,⟨L,_,hf,hn,e,hd⟩,ih (fun b hb=>hs b (by unfold frs;rw [zu,hf];exact jr _ hb)) hr⟩
  exact all X.outer (fun _ hb=>hb) I.ok.vV
theorem Inv.stack (I:Inv X pins σ H s):s.heap.FunFrames X.base X.stack:=by
  rcases I.ok.stk with e | ⟨e,hf⟩
  . rw [e];exact I.vV
  . rw [e];obtain ⟨m,hn,_⟩:=I.loc;refine .cons (by rw [I.ok.kind];decide) hf hn ?_ I.vV;exact Heap.get?_none_of_le (jj I.ok.bsz I.ok.above)
theorem Inv.ajP (I:Inv X pins σ H s):∀ b∈frs X.stack,b∈X.env.locals :: X.fs:=fun b hb=>by
  rcases I.ok.stk with e | ⟨e,hf⟩
  . rw [e] at hb;exact jr _ hb
  . rw [e] at hb;unfold frs at hb;rw [zu,hf] at hb;exact hb
theorem Inv.aeH (I:Inv X pins σ H s):∀ b∈frs X.stack,H b=none:=fun b hb=>by
  rcases ig.mp (I.ajP b hb) with e | hb
  . rw [e];exact I.free
  . obtain ⟨_,o,ho,_⟩:=I.ok.vV.mem hb;exact I.base.free b o ho (I.ok.frf b hb) fun z=>I.ok.a9Q b z hb
theorem Inv.step (I:Inv X pins σ H s)
    (hch:∀ b∈ch,(b∈X.ex∨X.s₀.heap.objs.size<=b)/\b≠X.env.locals/\(∀ x c,X.env.cells.lookup x=some c->c≠b)/\∀ p∈X.pn++pins,p.1≠b)
    (keep:∀ b o,b≠X.env.locals->b ∉ X.fs->b ∉ ch->s.heap.get? b=some o->H b=none->h'.get? b=some o)
    (slot:∀ b o,b≠X.env.locals->b∈X.fs->b ∉ ch->s.heap.get? b=some o->H b=none->∃ sl,h'.get? b=some { o with slots:=sl }) (free:∀ b o,b ∉ ch->s.heap.get? b=some o->H b=none->H' b=none)
    (there:∀ b o,b ∉ ch->s.heap.get? b=some o->∃ o',h'.get? b=some o')
    (tups:∀ b xs,H b=some (.tup xs)->H' b=some (.tup xs)) (m7:∀ b o u,H b=some (.lW o u)->H' b=some (.lW o u)) (uY:∀ b ps,H b=some (.tbl ps)->∃ more,H' b=some (.tbl (ps++more)))
    (ns:∀ m,s.heap.Ns X.env.locals m->h'.Ns X.env.locals m) (hok:HOk X.prog X.w H' h') (hg:AllBare g') :
    Inv X pins σ H' { s with heap:=h',gens:=g',drawn:=d',toks:=t' }:=by
  have neL:∀ b o,X.s₀.heap.get? b=some o->b≠X.env.locals:=fun b o e=>dw (dz (bh e) I.ok.above)
  have neC:∀ b o,X.s₀.heap.get? b=some o->b ∉ X.ex->b ∉ ch:=fun b o e hx hb=>by
    rcases (hch b hb).1 with z | z
    . exact hx z
    . exact absurd (dz (bh e) z) (kh _)
  have cellK:∀ x c,X.env.cells.lookup x=some c->∀ v,s.heap.IsCell c v->h'.IsCell c v:=fun x c e v ⟨o,ho,hd⟩=>by
    have nch:c ∉ ch:=fun z=>(hch c z).2.2.1 x c e rfl;by_cases hc:c∈X.fs
    . obtain ⟨sl,q⟩:=slot c o (I.cne x c e) hc nch ho (I.m8 x c e);exact ⟨_,q,hd⟩
    . exact ⟨o,keep c o (I.cne x c e) hc nch ho (I.m8 x c e),hd⟩
  refine ⟨I.ok,I.os,hg,⟨fun b o e n hb hx=>?_,fun b o e n hb hx=>?_,fun b o e n hx=>?_,fun b o e hx=>?_,fun b xs e=>tups b xs (I.base.tups b xs e),fun b o xs e=>m7 b o xs (I.base.m7 b o xs e),fun b ps e=>?_⟩,?_,fun x c e=>?_,?_,fun x c e=>?_,fun p hp=>?_,hok,I.len,I.hnd.mono m7,fun p hp=>tups _ _ (I.tup p hp)⟩
  . exact keep b o (neL b o e) hb (neC b o e hx) (I.base.keep b o e n hb hx) (I.base.free b o e n hx)
  . obtain ⟨sl,e1⟩:=I.base.slot b o e n hb hx;obtain ⟨sl',e2⟩:=slot b _ (neL b o e) hb (neC b o e hx) e1 (I.base.free b o e n hx);exact ⟨sl',e2⟩
  . obtain ⟨o',e1⟩:=I.base.there b o e hx;exact free b o' (neC b o e hx) e1 (I.base.free b o e n hx)
  . obtain ⟨o',e1⟩:=I.base.there b o e hx;exact there b o' (neC b o e hx) e1
  . obtain ⟨m1,e1⟩:=I.base.uY b ps e;obtain ⟨m2,e2⟩:=uY b _ e1;exact ⟨m1++m2,by rw [e2,Array.append_assoc]⟩
  . obtain ⟨m,hn,hl⟩:=I.loc;refine ⟨m,ns m hn,fun i x v e1 e2 e3=>?_⟩;obtain ⟨u,r,l⟩:=hl i x v e1 e2 e3;refine ⟨u,r,?_⟩;rcases l with l | ⟨k,c,e,z⟩
    . exact .inl l
    . exact .inr ⟨k,c,e,cellK x c e _ z⟩
  . obtain ⟨v,z⟩:=I.cell x c e;exact ⟨v,cellK x c e v z⟩
  . obtain ⟨m,⟨o,_,_,ho,_⟩,_⟩:=I.loc;exact free _ o (fun z=>(hch _ z).2.1 rfl) ho I.free
  . obtain ⟨v,o,ho,hd⟩:=I.cell x c e;exact free c o (fun z=>(hch c z).2.2.1 x c e rfl) ho (I.m8 x c e)
  . obtain ⟨e,n,ne,nf,d⟩:=I.pin p hp;have nch:p.1 ∉ ch:=fun z=>(hch p.1 z).2.2.2 p hp rfl;exact ⟨keep p.1 p.2 ne nf nch e n,free p.1 p.2 nch e n,ne,nf,d⟩
theorem Inv.un (I:Inv X pins σ H s) (u:Un X.fs [] H H' s.heap h') (hok:HOk X.prog X.w H' h'):Inv X pins σ H' { s with heap:=h',toks:=t' }:=by
  obtain ⟨m,⟨o,es,ep,ho,r⟩,_⟩:=id I.loc;obtain ⟨sl,hL⟩:=u.any ho I.free (by simp)
  exact I.step (g':=s.gens) (d':=s.drawn) (ch:=[]) (fun _ z=>nomatch z) (fun b o _ hb _ e n=>u.keep b o e n hb (by simp)) (fun b o _ hb _ e n=>u.slot b o e n hb (by simp)) (fun b o _ e n=>u.free b o e n (by simp)) (fun b o _ e=>u.there b o e (by simp)) u.tups u.m7 u.uY (fun m' hm=>by
    obtain ⟨o',es',ep',ho',r'⟩:=hm;rw [ho] at ho';cases ho';exact ⟨_,es',ep',hL,r'⟩) hok I.bare
theorem Inv.call (I:Inv X pins σ H s) (u:Un (frs X.stack) ch H H' s.heap h') (hok:HOk X.prog X.w H' h') (hg:AllBare g')
    (hch:∀ b∈ch,(b∈X.ex∨X.s₀.heap.objs.size<=b)/\b≠X.env.locals/\(∀ x c,X.env.cells.lookup x=some c->c≠b)/\∀ p∈X.pn++pins,p.1≠b) :
    Inv X pins σ H' { s with heap:=h',gens:=g',drawn:=d',toks:=t' }:=by
  obtain ⟨m,⟨o,es,ep,ho,r⟩,_⟩:=id I.loc;obtain ⟨sl,hL⟩:=u.any ho I.free fun z=>(hch _ z).2.1 rfl
  exact I.step (ch:=ch) hch (fun b o hL hb hc e n=>u.keep b o e n (fun z=>(ig.mp (I.ajP b z)).elim hL hb) hc) (fun b o _ _ hc e n=>u.any e n hc) (fun b o hc e n=>u.free b o e n hc) (fun b o hc e=>u.there b o e hc) u.tups u.m7 u.uY (fun m' hm=>by
    obtain ⟨o',es',ep',ho',r'⟩:=hm;rw [ho] at ho';cases ho';exact ⟨_,es',ep',hL,r'⟩) hok hg
theorem Inv.turned (I:Inv X pins σ H s) (k:∀ b o,b≠it->s.heap.get? b=some o->h'.get? b=some o) (hn:H it=none) (hL:it≠X.env.locals)
    (h1:it∈X.ex∨X.s₀.heap.objs.size<=it) (h2:∀ x c,X.env.cells.lookup x=some c->c≠it) (h3:∀ p∈X.pn++pins,p.1≠it):Inv X pins σ H { s with heap:=h',toks:=t' }:=by
  have nit:∀ b u,H b=some u->b≠it:=fun b u e z=>by rw [z,hn] at e;cases e
  refine I.step (g':=s.gens) (d':=s.drawn) (ch:=[it]) (fun b hb=>?_) (fun b o _ _ hc e _=>k b o (fun z=>hc (by simp [z])) e) (fun b o _ _ hc e _=>⟨o.slots,k b o (fun z=>hc (by simp [z])) e⟩) (fun _ _ _ _ n=>n)
    (fun b o hc e=>⟨o,k b o (fun z=>hc (by simp [z])) e⟩) (fun _ _ e=>e) (fun _ _ _ e=>e) (fun b ps e=>⟨#[],by rw [e];simp⟩) (fun m hm=>?_) (fun b u e=>?_) I.bare
  . have e:b=it:=by simpa using hb
    subst e;exact ⟨h1,hL,h2,h3⟩
  . obtain ⟨o,es,ep,ho,r⟩:=hm;exact ⟨o,es,ep,k _ o (Ne.symm hL) ho,r⟩
  . refine (I.hok b u e).stay (fun c v hc q=>k c v ?_ q) (fun _ q=>q) fun _ _ q=>q;rcases hc with z | z
    . rw [z];exact nit b u e
    . exact nit c _ z
theorem Inv.tok (I:Inv X pins σ H s) (t:Nat):Inv X pins σ H { s with toks:=t }:=I.un (h':=s.heap) (t':=t) Un.refl I.hok
theorem Inv.kept {t':Nat} (I:Inv X pins σ H s) (k:∀ b u,s.heap.get? b=some u->h'.get? b=some u):Inv X pins σ H { s with heap:=h',toks:=t' }:=I.un (Un.kept k) (I.hok.kept k)
theorem Inv.laid {a:Addr} {o:HO} {t':Nat} (I:Inv X pins σ H s) (k:∀ b u,s.heap.get? b=some u->h'.get? b=some u) (hp:s.heap.objs.size<=a) (new:gQ X.prog X.w (upd H a o) h' a o) :
    Inv X pins σ (upd H a o) { s with heap:=h',toks:=t' }:=I.un (Un.laid k hp (I.hok.fresh hp)) (I.hok.laid k hp new)
theorem Inv.write {x e:Addr} {o:HO} {t':Nat} (I:Inv X pins σ H s) (mu:Mut (H x)) (he:e=x∨H e=some (.own x)) (k:∀ b u,b≠e->s.heap.get? b=some u->h'.get? b=some u) (heo:∃ u,h'.get? e=some u)
    (new:gQ X.prog X.w (upd H x o) h' x o):Inv X pins σ (upd H x o) { s with heap:=h',toks:=t' }:=I.un (Un.write mu he k heo) (I.hok.write mu he k heo new)
theorem Inv.weak {σ':List (Option V)} (I:Inv X pins σ H s) (hl:σ'.length=σ.length) (w:∀ (i:Nat) v,σ'[i]?=some (some v)->σ[i]?=some (some v)):Inv X pins σ' H s :=
  ⟨I.ok,I.os,I.bare,I.base,let ⟨m,hn,hl'⟩:=I.loc;⟨m,hn,fun i x v e1 e2 e3=>hl' i x v e1 (w i v e2) e3⟩,I.cell,I.free,I.m8,I.pin,I.hok,hl.trans I.len,I.hnd,I.tup⟩
theorem Inv.alM {a5B:List (Addr×Obj)} (I:Inv X pins σ H s) (h:∀ p∈a5B,s.heap.get? p.1=some p.2/\H p.1=none/\p.1≠X.env.locals/\p.1 ∉ X.fs/\∀ v,p.2.data ≠ .cell v):Inv X a5B σ H s :=
  ⟨I.ok,I.os,I.bare,I.base,I.loc,I.cell,I.free,I.m8,fun p hp=>(oh.mp hp).elim (fun z=>I.pin p (vp _ z)) (h p),I.hok,I.len,I.hnd,I.tup⟩
theorem a9R (hN:N.Nodup) (a:N[i]?=some x) (b:N[j]?=some x):i=j:=by
  obtain ⟨h1,e1⟩:=fj.mp a;obtain ⟨h2,e2⟩:=fj.mp b;exact (List.getElem_inj hN).mp (e1.trans e2.symm)
theorem anO (I:Inv X pins σ H s) (hN:X.N.Nodup) (hi:X.N[i]?=some x) (hx:Loc X.env.scope x) (r:RelV v u)
    (h:∀ s',Inv X pins (σ.set i (some v)) H s'->(∃ a,iz a s.heap s'.heap/\(a=X.env.locals∨X.env.cells.lookup x=some a))->Q () s') (hf:X.fn x=true∨X.env.scope.names.lookup x=some .local:=by first | exact .inl rfl | exact .inr rfl | assumption):wpAny M A (storeName X.env x u) Q E s:=by
  obtain ⟨m,hn,hl⟩:=id I.loc;have hcls:(X.env.scope.kind == .class || (X.env.scope.kind == .module&&X.env.locals != X.env.globals))=false:=by rw [I.ok.kind];rfl
  have hiσ:i < σ.length:=by rw [I.len];exact (fj.mp hi).1
  have cne:=I.cne
  have tracked:∀ {a:Addr} {h':Heap},(∃ o,s.heap.get? a=some o/\H a=none)->iz a s.heap h'->HOk X.prog X.w H h':=fun {a h'} ha hs b ob e=>by
    obtain ⟨_,_,hfree⟩:=ha;refine (I.hok b ob e).stay (fun c w' hc q=>(hs.2 c ?_).trans q) (fun _ q=>q) fun _ _ q=>q;rintro rfl;rcases hc with rfl | hc
    . rw [hfree] at e;cases e
    . rw [hfree] at hc;cases hc
  rcases hx with hk | hk
  . refine wpAny_storeName_local hk hn (fun h' hn' hs=>?_) hcls;obtain ⟨oL,_,_,hoL,_⟩:=id hn;refine h _ ⟨I.ok,I.os,I.bare,⟨fun b o e n hb hx=>?_,fun b o e n hb hx=>?_,I.base.free,fun b o e hx=>?_,I.base.tups,I.base.m7,I.base.uY⟩,⟨_,hn',fun j y v' e1 e2 e3=>?_⟩,fun y c e=>?_,I.free,I.m8,fun p hp=>?_,tracked ⟨oL,hoL,I.free⟩ hs,by simpa using I.len,I.hnd,I.tup⟩ ⟨_,hs,.inl rfl⟩
    . exact (hs.2 b (dw (dz (bh e) I.ok.above))).trans (I.base.keep b o e n hb hx)
    . obtain ⟨sl,e1⟩:=I.base.slot b o e n hb hx;exact ⟨sl,(hs.2 b (dw (dz (bh e) I.ok.above))).trans e1⟩
    . obtain ⟨o',e1⟩:=I.base.there b o e hx;exact ⟨o',(hs.2 b (dw (dz (bh e) I.ok.above))).trans e1⟩
    . by_cases hj:j=i
      . subst hj;rw [hi] at e1;cases e1;rw [yq hiσ] at e2;cases e2;exact ⟨u,r,.inl ⟨hk,by simp⟩⟩
      . rw [kj (Ne.symm hj)] at e2;obtain ⟨u',r',q⟩:=hl j y v' e1 e2 e3;refine ⟨u',r',?_⟩;rcases q with ⟨k,e⟩ | ⟨k,c,e,z⟩
        . refine .inl ⟨k,?_⟩;have:y≠x:=fun e=>hj (a9R hN e1 (e ▸ hi));simp [this,e]
        . exact .inr ⟨k,c,e,z.sameBut hs (cne y c e)⟩
    . obtain ⟨w',z⟩:=I.cell y c e;exact ⟨w',z.sameBut hs (cne y c e)⟩
    . obtain ⟨e,n,ne,nf,d⟩:=I.pin p hp;exact ⟨(hs.2 p.1 ne).trans e,n,ne,nf,d⟩
  . have hfn:X.fn x=true:=by
      rcases hf with z | z
      . exact z
      . rw [z] at hk;cases hk
    obtain ⟨c,hc⟩:=I.ok.has x (.inl hk);obtain ⟨w',z⟩:=I.cell x c hc;refine wpAny_storeName_cell I.ok.kind hk hc z (fun h' hc' hs=>?_);obtain ⟨oc,hoc,aLU⟩:=id z;refine h { s with heap:=h' } ⟨I.ok,I.os,I.bare,⟨fun b o e n hb hx=>?_,fun b o e n hb hx=>?_,I.base.free,fun b o e hx=>?_,I.base.tups,I.base.m7,I.base.uY⟩,⟨m,hn.sameBut hs (Ne.symm (cne x c hc)),fun j y v' e1 e2 e3=>?_⟩,fun y c' e=>?_,I.free,I.m8,fun p hp=>?_,tracked ⟨oc,hoc,I.m8 x c hc⟩ hs,by simpa using I.len,I.hnd,I.tup⟩ ⟨c,hs,.inr hc⟩
    . exact (hs.2 b (dw (dz (bh e) (I.ok.cab x c hfn hc)))).trans (I.base.keep b o e n hb hx)
    . obtain ⟨sl,e1⟩:=I.base.slot b o e n hb hx;exact ⟨sl,(hs.2 b (dw (dz (bh e) (I.ok.cab x c hfn hc)))).trans e1⟩
    . obtain ⟨o',e1⟩:=I.base.there b o e hx;exact ⟨o',(hs.2 b (dw (dz (bh e) (I.ok.cab x c hfn hc)))).trans e1⟩
    . by_cases hj:j=i
      . subst hj;rw [hi] at e1;cases e1;rw [yq hiσ] at e2;cases e2;exact ⟨u,r,.inr ⟨.inl hk,c,hc,hc'⟩⟩
      . rw [kj (Ne.symm hj)] at e2;obtain ⟨u',r',q⟩:=hl j y v' e1 e2 e3;refine ⟨u',r',?_⟩;rcases q with q | ⟨k,c',e,z'⟩
        . exact .inl q
        . refine .inr ⟨k,c',e,z'.sameBut hs ?_⟩;rintro rfl;exact hj (a9R hN e1 (I.ok.inj _ _ _ e hc ▸ hi))
    . by_cases hcc:c'=c
      . subst hcc;exact ⟨_,hc'⟩
      . obtain ⟨w2,z2⟩:=I.cell y c' e;exact ⟨w2,z2.sameBut hs hcc⟩
    . obtain ⟨e,n,ne,nf,d⟩:=I.pin p hp;refine ⟨(hs.2 p.1 ?_).trans e,n,ne,nf,d⟩;intro q;rw [q,hoc] at e;have q':oc=p.2:=gk.inj e;exact d w' (by rw [← q'];exact aLU)
theorem a9S (I:Inv X pins σ H s) (hN:X.N.Nodup) (hi:X.N[i]?=some x) (hx:Loc X.env.scope x) (r:RelV v u)
    (h:∀ s',Inv X pins (σ.set i (some v)) H s'->Q () s') (hf:X.fn x=true∨X.env.scope.names.lookup x=some .local:=by first | exact .inl rfl | exact .inr rfl | assumption):wpAny M A (storeName X.env x u) Q E s :=
  anO I hN hi hx r (fun s' I' _=>h s' I') hf
theorem Inv.call' {s':Shared} (I:Inv X pins σ H s) (ho:s'.os=s.os) (u:Un (frs X.stack) ch H H' s.heap s'.heap) (hok:HOk X.prog X.w H' s'.heap) (hg:AllBare s'.gens)
    (hch:∀ b∈ch,(b∈X.ex∨X.s₀.heap.objs.size<=b)/\b≠X.env.locals/\(∀ x c,X.env.cells.lookup x=some c->c≠b)/\∀ p∈X.pn++pins,p.1≠b):Inv X pins σ H' s':=by
  obtain ⟨h',g',d',t',o'⟩:=s';have e:o'=s.os:=ho;subst e;exact I.call (g':=g') (t':=t') (d':=d') u hok hg hch
end
noncomputable abbrev XK:=Value->Option Addr->Hp->Prop
noncomputable abbrev St:=List (Option V)
noncomputable abbrev VK:=V->Hp->Prop
noncomputable abbrev TE:=St->Hp->VK->Prop
noncomputable abbrev TT:=St->Hp->(Bool->Hp->Prop)->Prop
noncomputable abbrev TA:=St->Hp->(List V->Hp->Prop)->Prop
structure Ends where
  nx:St->Hp->Prop
  rt:VK
  bk:St->Hp->Prop:=fun _ _=>False
  ct:St->Hp->Prop:=fun _ _=>False
noncomputable abbrev TS:=Ends->St->Hp->Prop
noncomputable def EP (X:Cx) (pins:List (Addr×Obj)) (σ:St) (Q:VK) (u:Value) (s':Shared):Prop:=∃ v H',Inv X pins σ H' s'/\RelV v u/\Q v H'
noncomputable def TP (X:Cx) (pins:List (Addr×Obj)) (σ:St) (Q:Bool->Hp->Prop) (b:Bool) (s':Shared):Prop:=∃ H',Inv X pins σ H' s'/\Q b H'
noncomputable def AP (X:Cx) (pins:List (Addr×Obj)) (σ:St) (Q:List V->Hp->Prop) (us:List Value) (s':Shared):Prop:=∃ vs H',Inv X pins σ H' s'/\Vals vs us/\Q vs H'
noncomputable def SP (X:Cx) (pins:List (Addr×Obj)) (D:Ends) (f:Flow) (s':Shared):Prop :=
  match f with
  | .next=>∃ σ' H',Inv X pins σ' H' s'/\D.nx σ' H'
  | .brk=>∃ σ' H',Inv X pins σ' H' s'/\D.bk σ' H'
  | .cont=>∃ σ' H',Inv X pins σ' H' s'/\D.ct σ' H'
  | .ret u=>∃ v σ' H',Inv X pins σ' H' s'/\RelV v u/\D.rt v H'
noncomputable def PE (X:Cx) (e:Expr) (t:TE):Prop :=
  ∀ (pins:List (Addr×Obj)) (s:Shared) (σ:St) (H:Hp) (Q:VK),Inv X pins σ H s->t σ H Q->wpAny (model X.prog X.w) X.A (eval e X.env) (EP X pins σ Q) X.xe s
noncomputable def PT (X:Cx) (e:Expr) (t:TT):Prop :=
  ∀ (pins:List (Addr×Obj)) (s:Shared) (σ:St) (H:Hp) (Q:Bool->Hp->Prop),Inv X pins σ H s->t σ H Q->wpAny (model X.prog X.w) X.A (isTrue e X.env (eval e X.env)) (TP X pins σ Q) X.xe s
noncomputable def PW (X:Cx) (e:Expr) (t:TT):Prop :=
  ∀ (whole:Sem Value) (pins:List (Addr×Obj)) (s:Shared) (σ:St) (H:Hp) (Q:Bool->Hp->Prop),Inv X pins σ H s->t σ H Q->wpAny (model X.prog X.w) X.A (isTrue e X.env whole) (TP X pins σ Q) X.xe s
theorem PW.pt {X:Cx} {t:TT} (h:PW X e t):PT X e t:=h _
noncomputable def PA (X:Cx) (es:List Expr) (t:TA):Prop :=
  ∀ (pos:Pos) (pins:List (Addr×Obj)) (s:Shared) (σ:St) (H:Hp) (Q:List V->Hp->Prop),Inv X pins σ H s->t σ H Q->wpAny (model X.prog X.w) X.A (spliced (backTo pos (starEach es X.env))) (AP X pins σ Q) X.xe s
noncomputable def PS (X:Cx) (st:Stmt) (t:TS):Prop :=
  ∀ (pins:List (Addr×Obj)) (s:Shared) (σ:St) (H:Hp) (D:Ends),Inv X pins σ H s->t D σ H->wpAny (model X.prog X.w) X.A (exec st X.env) (SP X pins D) X.xe s
noncomputable def PSs (X:Cx) (st:List Stmt) (t:TS):Prop :=
  ∀ (pins:List (Addr×Obj)) (s:Shared) (σ:St) (H:Hp) (D:Ends),Inv X pins σ H s->t D σ H->wpAny (model X.prog X.w) X.A (execs st X.env) (SP X pins D) X.xe s
theorem f9 {α:Type} {t:Sem α} {Q Q':α->Shared->Prop} (h:wpAny M A t Q E s) (hQ:∀ a s,Q a s->Q' a s):wpAny M A t Q' E s:=wpAny_mono h hQ fun _ _ x=>x
end
variable {Q:Value->Shared->Prop}{pins:List (Addr×Obj)}{R:V->V->Hp->Prop}{pos:Pos}{op:CmpOp}
section
section
variable {X:Cx}
theorem bin {a b:Expr} {ta tb:TE} (ha:PE X a ta) (hb:PE X b tb) {σ:St} (I:Inv X pins σ H s) (h:ta σ H fun x H1=>tb σ H1 fun y H2=>R x y H2)
    {α:Type} {Q:α->Shared->Prop} {f:Value->Value->Sem α}
    (hf:∀ v u s2 x y H2,Inv X pins σ H2 s2->RelV x v->RelV y u->R x y H2->wpAny (model X.prog X.w) X.A (f v u) Q X.xe s2) :
    wpAny (model X.prog X.w) X.A (eval a X.env) (fun v s₁=>wpAny (model X.prog X.w) X.A (eval b X.env) (fun u s₂=>wpAny (model X.prog X.w) X.A (f v u) Q X.xe s₂) X.xe s₁) X.xe s:=by
  refine f9 (ha pins s σ H _ I h) fun v s1 ⟨x,H1,I1,r1,q1⟩=>?_;refine f9 (hb pins s1 σ H1 _ I1 q1) fun u s2 ⟨y,H2,I2,r2,q2⟩=>?_;exact hf v u s2 x y H2 I2 r1 r2 q2
noncomputable def aGY (i:Nat):TE:=fun σ H Q=>∃ v,σ[i]?=some (some v)/\Q v H
noncomputable def tC (v:V):TE:=fun _ H Q=>Q v H
theorem aB6 (hN:X.N[i]?=some x) (hv:Vis X.env.scope x) (hd:(x == ("__debug__" : Str))=false:=by decide) (hcd:(x == ("__classdict__" : Str))=false:=by decide):PE X (.Name x pos) (aGY i):=by
  intro pins s σ H Q I h;obtain ⟨v,e,h⟩:=h;obtain ⟨m,hn,hl⟩:=I.loc;obtain ⟨u,r,l⟩:=hl i x v hN e hv;have fin:EP X pins σ Q u s:=⟨v,H,I,r,h⟩;rcases l with ⟨hk,hm⟩ | ⟨hk,c,hc,hcell⟩
  . exact wpAny_Name (wpAny_loadName_local I.ok.kind hk hn hm fin) hd
  . rcases hk with hk | hk
    . exact wpAny_Name (wpAny_loadName_cell I.ok.kind hk hc hcell fin) hd
    . exact wpAny_Name (wpAny_loadName_free I.ok.kind hk hc hcell fin hcd) hd
theorem aB7 {i j pos}:PE X (.Constant (.int i) j pos) (tC (.int i)):=fun _ _ _ H _ I h=>wpAny_Constant_int ⟨.int i,H,I.tok _,⟨_,rfl⟩,h⟩
theorem aGZ {b j pos}:PE X (.Constant (.bool b) j pos) (tC (.bl b)):=fun _ _ _ H _ I h=>Constant_bool ⟨.bl b,H,I,rfl,h⟩
theorem aB8 {j pos}:PE X (.Constant .none j pos) (tC .non):=fun _ _ _ H _ I h=>Constant_none ⟨.non,H,I,rfl,h⟩
theorem aB9 {x j pos}:PE X (.Constant (.str x) j pos) (tC (.str x)):=fun _ _ _ H _ I h=>Calls.Constant_str ⟨.str x,H,I.tok _,⟨_,rfl⟩,h⟩
noncomputable def Gl (X:Cx) (x:Str):Prop:=X.env.kindOf x=some .globalImplicit
theorem rT {σ:St} (I:Inv X pins σ H s) (hg:Gl X x) (hm:X.mg x=some u) (h:Q u s)
    (hd:(x == ("__debug__" : Str))=false:=by decide):wpAny (model X.prog X.w) X.A (eval (.Name x pos) X.env) Q E s :=
  Calls.Name_function_global I.ok.kind hg (Calls.loadGlobal_global (by rw [I.ok.glob];exact I.mod.glob.keeps I.bk) hm h) hd
theorem a3P {σ:St} (I:Inv X pins σ H s) (hg:Gl X x) (hm:X.mg x=none) (hv:bootBuiltins x=some u) (h:Q u s)
    (hn:x ≠ "__name__" := by decide) (hd:(x == ("__debug__" : Str))=false:=by decide):wpAny (model X.prog X.w) X.A (eval (.Name x pos) X.env) Q E s:=by
  obtain ⟨mb,h1,h2⟩:=I.mod.blt;exact Calls.Name_function_global I.ok.kind hg (Calls.loadGlobal_builtin (by rw [I.ok.glob];exact I.mod.glob.keeps I.bk) hm (by rw [I.ok.blt];exact h1.keeps I.bk) ((h2 x hn).trans hv) h) hd
theorem avG (hg:Gl X x) (hm:X.mg x=some u) (r:RelV v u) (hd:(x == ("__debug__" : Str))=false:=by decide):PE X (.Name x pos) (tC v) :=
  fun _ _ _ H _ I h=>rT I hg hm ⟨v,H,I,r,h⟩ hd
theorem avH (hg:Gl X x) (hm:X.mg x=none) (hv:bootBuiltins x=some u) (r:RelV v u) (hn:x ≠ "__name__" := by decide) (hd:(x == ("__debug__" : Str))=false:=by decide):PE X (.Name x pos) (tC v) :=
  fun _ _ _ H _ I h=>a3P I hg hm hv ⟨v,H,I,r,h⟩ hn hd
variable {a b:Expr} {ta tb:TE} {pos:Pos}
noncomputable def PC (X:Cx) (op:CmpOp) (a b:Expr) (t:TE):Prop :=
  ∀ (pins:List (Addr×Obj)) (s:Shared) (σ:St) (H:Hp) (Q:VK),Inv X pins σ H s->t σ H Q ->
    wpAny (model X.prog X.w) X.A (eval a X.env) (fun v s₁=>wpAny (model X.prog X.w) X.A (eval b X.env) (fun u s₂=>wpAny (model X.prog X.w) X.A (compareOp op v u) (EP X pins σ Q) X.xe s₂) X.xe s₁) X.xe s
theorem a9T (b:Expr) (h:op ≠ .In) (h2:op ≠ .NotIn):behindInMarks op b=false:=by
  have e1:(op == CmpOp.In)=false:=by cases op <;> first | rfl | exact absurd rfl h
  have e2:(op == CmpOp.NotIn)=false:=by cases op <;> first | rfl | exact absurd rfl h2
  cases b <;> simp [behindInMarks,e1,e2]
noncomputable def tB (t:TE):TT:=fun σ H Q=>t σ H fun x H1=>∃ c,x = .bl c/\Q c H1
theorem aLV {t:TE} (h:PC X op a b t) (h1:behindInMarks op b=false:=by first | exact a9T _ (by decide) (by decide) | rfl):PT X (.Compare a [op] [b] pos) (tB t):=by
  intro pins s σ H Q I hw;refine wpAny_isTrue_Compare1 (f9 (h pins s σ H _ I hw) fun v s1 h1=>f9 h1 fun u s2 h2=>f9 h2 fun c s3 ⟨x,H1,I1,r1,q1⟩=>?_) h1;obtain ⟨d,rfl,q⟩:=q1;cases r1;exact wpAny_truthy_bool ⟨H1,I1,q⟩
theorem aBA {t:TE} (h:PE X e t) (he:∀ whole,isTrue e X.env whole=(do let v ← whole;standAt e.pos;holding [v] (truthy v)):=by intro _;rfl):PT X e (tB t):=by
  intro pins s σ H Q I hw;refine isTrue_plain (f9 (h pins s σ H _ I hw) fun v s1 ⟨x,H1,I1,r1,q1⟩=>?_) (he _);obtain ⟨d,rfl,q⟩:=q1;cases r1;exact wpAny_truthy_bool ⟨H1,I1,q⟩
variable {tA tB':TT} {rest:List Expr}
noncomputable def aH0 (t u:TT):TT:=fun σ H Q=>t σ H fun c H1=>if c=true then u σ H1 Q else Q false H1
noncomputable def tOr (t u:TT):TT:=fun σ H Q=>t σ H fun c H1=>if c=true then Q true H1 else u σ H1 Q
noncomputable def aLW (t:TT):TT:=fun σ H Q=>t σ H fun c H1=>Q (!c) H1
theorem avI (ha:PT X a tA):PW X (.BoolOp .And [a] pos) tA:=by
  intro wh pins s σ H Q I h;refine isTrue_and (f9 (ha pins s σ H Q I h) fun c s1 e=>?_);cases c with
  | true=>exact isTrue_and_nil e
  | false=>exact e
theorem aBB (ha:PT X a tA):PW X (.BoolOp .Or [a] pos) tA:=by
  intro wh pins s σ H Q I h;refine isTrue_or (f9 (ha pins s σ H Q I h) fun c s1 e=>?_);cases c with
  | false=>exact isTrue_or_nil e
  | true=>exact e
theorem aBC (ha:PT X a tA) (hb:PW X (.BoolOp .And (b :: rest) pos) tB'):PW X (.BoolOp .And (a :: b :: rest) pos) (aH0 tA tB'):=by
  intro wh pins s σ H Q I h;refine isTrue_and (f9 (ha pins s σ H _ I h) fun c s1 ⟨H1,I1,q1⟩=>?_);cases c with
  | true=>exact hb wh pins s1 σ H1 Q I1 q1
  | false=>exact ⟨H1,I1,q1⟩
theorem aH1 (ha:PT X a tA) (hb:PW X (.BoolOp .Or (b :: rest) pos) tB'):PW X (.BoolOp .Or (a :: b :: rest) pos) (tOr tA tB'):=by
  intro wh pins s σ H Q I h;refine isTrue_or (f9 (ha pins s σ H _ I h) fun c s1 ⟨H1,I1,q1⟩=>?_);cases c with
  | true=>exact ⟨H1,I1,q1⟩
  | false=>exact hb wh pins s1 σ H1 Q I1 q1
theorem aBD (ha:PT X a tA):PT X (.UnaryOp .Not a pos) (aLW tA):=by
  intro pins s σ H Q I h;exact isTrue_not (ha pins s σ H (fun c H1=>Q (!c) H1) I h)
noncomputable def aH2 (ta tb:TE):TE:=fun σ H Q=>ta σ H fun x H1=>∃ c,x = .bl c/\if c=true then tb σ H1 Q else Q (.bl false) H1
noncomputable def aLX (ta tb:TE):TE:=fun σ H Q=>ta σ H fun x H1=>∃ c,x = .bl c/\if c=true then Q (.bl true) H1 else tb σ H1 Q
noncomputable def aH3 (ta:TE):TE:=fun σ H Q=>ta σ H fun x H1=>∃ c,x = .bl c/\Q (.bl (!c)) H1
theorem aBE {op} {t:TE} (h:PE X a t):PE X (.BoolOp op [a] pos) t:=fun pins s σ H Q I hw=>BoolOp_one (h pins s σ H Q I hw)
theorem aBF (ha:PE X a ta) (hb:PE X (.BoolOp .And (b :: rest) pos) tb):PE X (.BoolOp .And (a :: b :: rest) pos) (aH2 ta tb):=by
  intro pins s σ H Q I h;refine BoolOp_and (f9 (ha pins s σ H _ I h) fun v s1 ⟨x,H1,I1,r1,q1⟩=>?_);obtain ⟨c,rfl,q1⟩:=q1;cases r1;refine wpAny_truthy_bool ?_;cases c with
  | true=>exact hb pins s1 σ H1 Q I1 q1
  | false=>exact ⟨.bl false,H1,I1,rfl,q1⟩
theorem aH4 (ha:PE X a ta) (hb:PE X (.BoolOp .Or (b :: rest) pos) tb):PE X (.BoolOp .Or (a :: b :: rest) pos) (aLX ta tb):=by
  intro pins s σ H Q I h;refine BoolOp_or (f9 (ha pins s σ H _ I h) fun v s1 ⟨x,H1,I1,r1,q1⟩=>?_);obtain ⟨c,rfl,q1⟩:=q1;cases r1;refine wpAny_truthy_bool ?_;cases c with
  | false=>exact hb pins s1 σ H1 Q I1 q1
  | true=>exact ⟨.bl true,H1,I1,rfl,q1⟩
theorem aBG (ha:PE X a ta):PE X (.UnaryOp .Not a pos) (aH3 ta):=by
  intro pins s σ H Q I h;refine UnaryOp_ (f9 (ha pins s σ H _ I h) fun v s1 ⟨x,H1,I1,r1,q1⟩=>?_);obtain ⟨c,rfl,q1⟩:=q1;cases r1;exact not_of (wpAny_truthy_bool ⟨.bl (!c),H1,I1,rfl,q1⟩)
end
end
variable {X:Cx}{es:List Expr}{n:Nat}{tg:Expr}{te:TE}{cm:Bool}{tl:List (Addr×List V)}
section
noncomputable def SqL (K:cu) (H:Hp) (a:Addr) (xs:List V):Prop :=
  Rd H a (.lst xs) ∨
    ∃ (o:Obj) (its:Array Value) (n:Nat),K.lookup a=some o/\o.cls = .type "list" /\ o.dict=none/\o.data = .seq its n/\its.size<=sizeLine/\Vals xs its.toList
noncomputable def SqT (K:cu) (H:Hp) (a:Addr) (xs:List V):Prop :=
  Rd H a (.tup xs) ∨
    ∃ (o:Obj) (its:Array Value) (n:Nat),K.lookup a=some o/\o.cls = .type "tuple" /\ o.data = .seq its n/\its.size<=sizeLine/\Vals xs its.toList
noncomputable def aLY:Value->Option V
  | .none=>some .non
  | .bool b=>some (.bl b)
  | .int i _=>some (.int i)
  | .str x _=>some (.str x)
  | .bytes b _=>some (.byt b)
  | .float b _=>some (.flt b)
  | .ref a=>some (.ref a)
  | .type n=>some (.ty n)
  | _=>none
theorem RelV.abs {x:V} (r:RelV x u):aLY u=some x:=by
  cases x with
  | non=>cases r;rfl
  | bl _=>cases r;rfl
  | int _=>obtain ⟨t,rfl⟩:=r;rfl
  | str _=>obtain ⟨t,rfl⟩:=r;rfl
  | byt _=>obtain ⟨t,rfl⟩:=r;rfl
  | flt _=>obtain ⟨t,rfl⟩:=r;rfl
  | ref _=>cases r;rfl
  | ty _=>cases r;rfl
theorem RelV.inj {x y:V} {u:Value} (r:RelV x u) (q:RelV y u):x=y:=gk.inj (r.abs.symm.trans q.abs)
theorem Vals.inj:∀ {xs ys:List V} {us:List Value},Vals xs us->Vals ys us->xs=ys
  | _,_,_,.nil,.nil=>rfl
  | _,_,_,.cons r t,.cons r' t'=>by rw [r.inj r',Vals.inj t t']
section
variable {X:Cx} {pins:List (Addr×Obj)} {σ:St} {H:Hp} {s:Shared} {a:Addr} {xs ys:List V}
theorem SqL.of {K:cu} (h:H a=some (.lst xs)):SqL K H a xs := .inl (.inl h)
theorem SqT.of {K:cu} (h:H a=some (.tup xs)):SqT K H a xs := .inl (.inl h)
theorem Inv.list (I:Inv X pins σ H s) (h:SqL X.K H a xs):∃ its:List Value,Vals xs its/\PlainL s.heap a its.toArray/\xs.length<=sizeLine:=by
  rcases h with h | ⟨o,its,n,hk,hc,hd,hs,hz,r⟩
  . obtain ⟨z,its,n,r,e⟩:=h.ok I.hok;exact ⟨its,r,⟨_,n,e,rfl,rfl,rfl⟩,z⟩
  . refine ⟨its.toList,r,⟨o,n,I.kIn a o hk,hc,hd,by simpa using hs⟩,?_⟩;have e:=r.length;simp only [nu] at e;omega
theorem Inv.tuple (I:Inv X pins σ H s) (h:SqT X.K H a xs):∃ its:List Value,Vals xs its/\IsTup s.heap a its.toArray/\xs.length<=sizeLine:=by
  rcases h with h | ⟨o,its,n,hk,hc,hs,hz,r⟩
  . obtain ⟨z,its,r,p⟩:=h.ok I.hok;exact ⟨its,r,p,z⟩
  . refine ⟨its.toList,r,⟨o,I.kIn a o hk,hc,n,by simpa using hs⟩,?_⟩;have e:=r.length;simp only [nu] at e;omega
theorem Inv.apT (I:Inv X pins σ H s) (h:SqL X.K H a xs) (h':SqL X.K H a ys):xs=ys:=by
  obtain ⟨its,r,⟨o,n,e,_,_,d⟩,_⟩:=I.list h;obtain ⟨its',r',⟨o',n',e',_,_,d'⟩,_⟩:=I.list h';rw [e] at e';cases e';rw [d] at d';injection d' with d1 _;have:its=its':=by simpa using congrArg Array.toList d1
  subst this;exact r.inj r'
theorem Inv.a6R (I:Inv X pins σ H s) (h:SqT X.K H a xs) (h':SqT X.K H a ys):xs=ys:=by
  obtain ⟨its,r,⟨o,e,_,n,d⟩,_⟩:=I.tuple h;obtain ⟨its',r',⟨o',e',_,n',d'⟩,_⟩:=I.tuple h';rw [e] at e';cases e';rw [d] at d';injection d' with d1 _;have:its=its':=by simpa using congrArg Array.toList d1
  subst this;exact r.inj r'
end
noncomputable abbrev Cx.wish (X:Cx) (E:Value->Shared->Prop):Cx:={ X with xe:=E }
noncomputable abbrev Cx.nox (X:Cx):Cx:=X.wish fun _ _=>False
theorem Cx.Ok.wish (ok:X.Ok) (E:Value->Shared->Prop):(X.wish E).Ok :=
  ⟨ok.mod,ok.kind,ok.glob,ok.blt,ok.above,ok.inj,ok.has,ok.cab,ok.hd,ok.frames,ok.stk,ok.exf,ok.bs,ok.bsz,ok.a8S,ok.a9Q,ok.vV,ok.frf⟩
theorem Cx.Ok.vW (ok:(X.wish E).Ok):X.Ok :=
  ⟨ok.mod,ok.kind,ok.glob,ok.blt,ok.above,ok.inj,ok.has,ok.cab,ok.hd,ok.frames,ok.stk,ok.exf,ok.bs,ok.bsz,ok.a8S,ok.a9Q,ok.vV,ok.frf⟩
section
variable {X:Cx} {pins:List (Addr×Obj)} {σ:St} {H:Hp} {s:Shared} {E:Value->Shared->Prop}
theorem Inv.wish (I:Inv X pins σ H s) (E:Value->Shared->Prop):Inv (X.wish E) pins σ H s:=⟨I.ok.wish E,I.os,I.bare,I.base,I.loc,I.cell,I.free,I.m8,I.pin,I.hok,I.len,I.hnd,I.tup⟩
theorem Inv.vW (I:Inv (X.wish E) pins σ H s):Inv X pins σ H s:=⟨I.ok.vW,I.os,I.bare,I.base,I.loc,I.cell,I.free,I.m8,I.pin,I.hok,I.len,I.hnd,I.tup⟩
theorem SP.vW {D:Ends} {f:Flow} {s':Shared} (h:SP (X.wish E) pins D f s'):SP X pins D f s':=by
  cases f with
  | next=>obtain ⟨σ',H',I,q⟩:=h;exact ⟨σ',H',I.vW,q⟩
  | brk=>obtain ⟨σ',H',I,q⟩:=h;exact ⟨σ',H',I.vW,q⟩
  | cont=>obtain ⟨σ',H',I,q⟩:=h;exact ⟨σ',H',I.vW,q⟩
  | ret u=>obtain ⟨v,σ',H',I,r,q⟩:=h;exact ⟨v,σ',H',I.vW,r,q⟩
theorem PE.nox {t:TE} (h:PE X.nox e t):PE X e t:=fun pins s σ H Q I hw =>
  wpAny_mono (h pins s σ H Q (I.wish _) hw) (fun _ _ ⟨v,H',I',r,q⟩=>⟨v,H',I'.vW,r,q⟩) fun _ _ z=>False.elim z
theorem PT.nox {t:TT} (h:PT X.nox e t):PT X e t:=fun pins s σ H Q I hw =>
  wpAny_mono (h pins s σ H Q (I.wish _) hw) (fun _ _ ⟨H',I',q⟩=>⟨H',I'.vW,q⟩) fun _ _ z=>False.elim z
theorem PSs.nox {st:List Stmt} {t:TS} (h:PSs X.nox st t):PSs X st t:=fun pins s σ H D I hw =>
  wpAny_mono (h pins s σ H D (I.wish _) hw) (fun _ _ q=>q.vW) fun _ _ z=>False.elim z
end
section
variable {X:Cx} {st:Stmt} {rest:List Stmt} {t u:TS} {e:Expr} {te:TE} {pos:Pos}
noncomputable def azR:TS:=fun D σ H=>D.nx σ H
noncomputable def aH5 (t u:TS):TS:=fun D σ H=>t { D with nx:=u D } σ H
theorem avJ:PSs X [] azR:=fun _ _ σ H _ I h=>wpAny_execs_nil ⟨σ,H,I,h⟩
theorem apU (h1:PS X st t) (h2:PSs X rest u):PSs X (st :: rest) (aH5 t u):=by
  intro pins s σ H D I h;refine wpAny_execs_cons (f9 (h1 pins s σ H { D with nx:=u D } I h) fun f s1 q=>?_);cases f with
  | next =>
    obtain ⟨σ',H',I',q⟩:=q;exact h2 pins s1 σ' H' D I' q
  | ret v=>exact q
  | brk=>exact q
  | cont=>exact q
theorem avK (h1:PS X st t):PSs X [st] t:=by
  intro pins s σ H D I h;refine wpAny_execs_cons (f9 (h1 pins s σ H D I h) fun f s1 q=>?_);cases f with
  | next=>exact wpAny_execs_nil q
  | ret v=>exact q
  | brk=>exact q
  | cont=>exact q
theorem avL:PS X (.Pass pos) azR:=fun _ _ σ H _ I h=>wpAny_Pass ⟨σ,H,I,h⟩
theorem Inv.quiet {σ:St} (I:Inv X pins σ H s):interactive X.env=false:=by simp [interactive,I.ok.kind]
noncomputable def aH6 (te:TE):TS:=fun D σ H=>te σ H fun _ H1=>D.nx σ H1
theorem avM (he:PE X e te) (hs:swapsWith e none pos.line X.env=pure false:=by rfl):PS X (.Expr e pos) (aH6 te):=by
  intro pins s σ H D I h;exact wpAny_Expr_any (f9 (he pins s σ H _ I h) fun v s1 ⟨x,H1,I1,r1,q1⟩=>⟨σ,H1,I1,q1⟩) I.quiet hs
noncomputable def aLZ (te:TE):TS:=fun D σ H=>te σ H D.rt
theorem aBH (he:PE X e te):PS X (.Return (some e) pos) (aLZ te):=by
  intro pins s σ H D I h;exact wpAny_Return_some (f9 (he pins s σ H _ I h) fun v s1 ⟨x,H1,I1,r1,q1⟩=>⟨x,σ,H1,I1,r1,q1⟩)
noncomputable def aM0 (c:TT) (t u:TS):TS:=fun D σ H=>c σ H fun b H1=>if b=true then t D σ H1 else u D σ H1
theorem aH7 {c:Expr} {a b:List Stmt} {tc:TT} (hc:PT X c tc) (ha:PSs X a t) (hb:PSs X b u):PS X (.If c a b pos) (aM0 tc t u):=by
  intro pins s σ H D I h;refine wpAny_If (f9 (hc pins s σ H _ I h) fun d s1 ⟨H1,I1,q1⟩=>?_);cases d with
  | true=>exact ha pins s1 σ H1 D I1 q1
  | false=>exact hb pins s1 σ H1 D I1 q1
end
noncomputable abbrev TG:=V->St->Hp->(St->Hp->Prop)->Prop
noncomputable abbrev TGs:=List V->St->Hp->(St->Hp->Prop)->Prop
noncomputable def PG (X:Cx) (target:Expr) (t:TG):Prop :=
  ∀ (pins:List (Addr×Obj)) (s:Shared) (σ:St) (H:Hp) (v:V) (u:Value) (Q:St->Hp->Prop),Inv X pins σ H s->RelV v u->t v σ H Q ->
    wpAny (model X.prog X.w) X.A (assign target X.env u) (fun _ s'=>∃ σ' H',Inv X pins σ' H' s'/\Q σ' H') X.xe s
noncomputable def PGs (X:Cx) (ts:List Expr) (t:TGs):Prop :=
  ∀ (pins:List (Addr×Obj)) (s:Shared) (σ:St) (H:Hp) (vs:List V) (us:List Value) (Q:St->Hp->Prop),Inv X pins σ H s->Vals vs us->t vs σ H Q ->
    wpAny (model X.prog X.w) X.A (assignInOrder ((assignEach ts X.env).map (·.2)) us) (fun _ s'=>∃ σ' H',Inv X pins σ' H' s'/\Q σ' H') X.xe s
section
variable {X:Cx} {pos:Pos}
noncomputable def alN (i:Nat):TG:=fun v σ H Q=>Q (σ.set i (some v)) H
theorem aeI (hN:X.N.Nodup) (hi:X.N[i]?=some x) (hx:Loc X.env.scope x) (hf:X.fn x=true∨X.env.scope.names.lookup x=some .local:=by first | exact .inl rfl | exact .inr rfl | assumption):PG X (.Name x pos) (alN i):=by
  intro pins s σ H v u Q I r h;exact wpAny_assign_Name (a9S I hN hi hx r (fun s' I'=>⟨_,H,I',h⟩) hf)
noncomputable def aH9:TGs:=fun vs σ H Q=>vs=[]/\Q σ H
noncomputable def azT (t:TG) (u:TGs):TGs:=fun vs σ H Q=>∃ v r,vs=v :: r/\t v σ H fun σ' H'=>u r σ' H' Q
theorem avN:PGs X [] aH9:=by
  intro pins s σ H vs us Q I r h;obtain ⟨e,h⟩:=h;subst e;cases r;exact assignInOrder_nil ⟨σ,H,I,h⟩
theorem apV {t:TG} {u:TGs} (h1:PG X e t) (h2:PGs X es u)
    (hs:(assignEach (e :: es) X.env).map (·.2)=assign e X.env :: (assignEach es X.env).map (·.2):=by rfl):PGs X (e :: es) (azT t u):=by
  intro pins s σ H vs us Q I r h;obtain ⟨v,vr,e1,h⟩:=h;subst e1;cases r with
  | cons r rr =>
    rw [hs];refine assignInOrder_cons (f9 (h1 pins s σ H _ _ _ I r h) fun _ s1 ⟨σ1,H1,I1,q1⟩=>?_);exact h2 pins s1 σ1 H1 _ _ Q I1 rr q1
noncomputable def aM1 (K:cu) (n:Nat) (t:TGs):TG:=fun v σ H Q=>∃ a xs,v = .ref a/\SqT K H a xs/\xs.length=n/\t xs σ H Q
theorem aBI {k:Nat} {t:TGs} (hc:X.calm=true) (h:PGs X es t)
    (hn:(assignEach es X.env).length=n:=by rfl) (hst:(assignEach es X.env).findIdx? (·.1)=none:=by rfl):PG X (.Tuple es k pos) (aM1 X.K n t):=by
  intro pins s σ H v u Q I r hw;obtain ⟨a,xs,e1,hq,hl,hw⟩:=hw;subst e1;cases r;obtain ⟨its,rv,ht,hz⟩:=I.tuple hq;refine assign_Tuple_tuple (I.ok.hd hc) ht (by simp [hn,← hl,rv.length]) hst fun h' hx=>?_;have I1:Inv X pins σ H { s with heap:=h' }:=I.kept (t':=s.toks) fun b o e=>hx b o (dw (bh e)) e;exact h pins _ σ H xs _ Q I1 (by simpa using rv) hw
noncomputable def aHA (te:TE) (g:TG):TS:=fun D σ H=>te σ H fun x H1=>g x σ H1 D.nx
theorem aBJ {g:TG} (he:PE X e te) (hg:PG X tg g) (hs:swapsWithSole [tg] e pos.line X.env=pure false:=by rfl) (hw:swappedStores [tg] e X.env=pure none:=by rfl)
    (h1:(assignEach [tg] X.env).map (·.2)=[assign tg X.env]:=by rfl):PS X (.Assign [tg] e pos) (aHA te g):=by
  intro pins s σ H D I h;refine wpAny_Assign_stores (f9 (he pins s σ H _ I h) fun v s1 ⟨x,H1,I1,r1,q1⟩=>?_) hs hw;rw [h1];exact f9 (hg pins s1 σ H1 x v _ I1 r1 q1) fun _ s2 q=>q
theorem aBK {pos':Pos} (hN:X.N.Nodup) (hi:X.N[i]?=some x) (hx:Loc X.env.scope x) (he:PE X e te) (hs:swapsWith e (some (.Name x pos')) pos.line X.env=pure false:=by rfl) (hf:X.fn x=true∨X.env.scope.names.lookup x=some .local:=by first | exact .inl rfl | exact .inr rfl | assumption) :
    PS X (.Assign [.Name x pos'] e pos) (aHA te (alN i)):=by
  intro pins s σ H D I h;refine wpAny_Assign_Name (f9 (he pins s σ H _ I h) fun v s1 ⟨y,H1,I1,r1,q1⟩=>?_) hs;exact a9S I1 hN hi hx r1 (fun s2 I2=>⟨_,H1,I2,q1⟩) hf
end
section
variable {X:Cx} {pos:Pos}
end
structure It where
  go:Nat->Hp->Prop
  yld:Nat->Hp->V->Hp->Prop
  stop:Nat->Hp->Prop
noncomputable def a6S (X:Cx) (pins:List (Addr×Obj)) (H:Hp) (b:Addr):Prop :=
  H b=none/\b≠X.env.locals/\b ∉ X.fs/\(b∈X.ex∨X.s₀.heap.objs.size<=b)/\(∀ x c,X.env.cells.lookup x=some c->c≠b)/\∀ p∈X.pn++pins,p.1≠b
theorem Inv.a6T {σ:St} (I:Inv X pins σ H s) (hb:s.heap.objs.size<=b) (hn:H' b=none):a6S X pins H' b:=by
  refine ⟨hn,wu (dz I.lt hb),I.aLT hb,.inr (jj I.sz hb),fun x c e z=>?_,fun p hp z=>?_⟩
  . obtain ⟨v,q⟩:=I.cell x c e;exact absurd (dz q.lt (by rw [z];exact hb)) (kh _)
  . exact absurd (dz (bh (I.pin p hp).1) (by rw [z];exact hb)) (kh _)
structure Turn (cm:Bool) (tl:List (Addr×List V)) (P:Program) (w:World) (K:cu) (tg:Expr) (J:It) (fp:List Addr) (it:Addr) (tn:Nat->Heap->Prop):Prop where
  mem:it∈fp
  obj:∀ i h,tn i h->∀ b∈fp,∃ o,h.get? b=some o/\∀ v,o.data ≠ .cell v
  keep:∀ i h h',tn i h->(∀ b∈fp,∀ o,h.get? b=some o->h'.get? b=some o)->tn i h'
  item:∀ (X:Cx),X.prog=P->X.w=w->X.K=K->(cm=true->X.calm=true)->(∀ p∈tl,p∈X.tp)->∀ (i:Nat) (pins:List (Addr×Obj)) (s:Shared) (σ:St) (H:Hp) (E:Value->Shared->Prop),Inv X pins σ H s->(∀ b∈fp,a6S X pins H b)->tn i s.heap->J.go i H ->
    wpAny (model P w) X.A (pyNext (.ref it)) (fun r s1=>∃ u,r=some u /\
      wpAny (model P w) X.A (letOwnedTupleGo tg (.ref it) u) (fun _ s2=>∃ x H',Inv X pins σ H' s2/\RelV x u/\J.yld i H x H'/\tn (i+1) s2.heap/\∀ b∈fp,H' b=none) E s1) E s
  done:∀ (X:Cx),X.prog=P->X.w=w->X.K=K->(cm=true->X.calm=true)->(∀ p∈tl,p∈X.tp)->∀ (i:Nat) (pins:List (Addr×Obj)) (s:Shared) (σ:St) (H:Hp) (E:Value->Shared->Prop),Inv X pins σ H s->(∀ b∈fp,a6S X pins H b)->tn i s.heap->J.stop i H ->
    wpAny (model P w) X.A (pyNext (.ref it)) (fun r s1=>r=none/\Inv X pins σ H s1) E s
  self:∀ (A:Around) (i:Nat) (s:Shared) (Q:Value->Shared->Prop) (E:Value->Shared->Prop),tn i s.heap->Q (.ref it) s->wpAny (model P w) A (pyIter (.ref it)) Q E s
noncomputable abbrev TI:=St->Hp->(It->Hp->Prop)->Prop
noncomputable def PIE (X:Cx) (pins:List (Addr×Obj)) (σ:St) (tg:Expr) (R:It->Hp->Prop) (itv:Value) (s2:Shared):Prop :=
  ∃ (it:Addr) (fp:List Addr) (tn:Nat->Heap->Prop) (J:It) (H':Hp),itv = .ref it/\Inv X pins σ H' s2/\Turn X.calm X.tp X.prog X.w X.K tg J fp it tn/\tn 0 s2.heap/\(∀ b∈fp,a6S X pins H' b)/\R J H'
noncomputable def PI (X:Cx) (tg iter:Expr) (wi:TI):Prop :=
  ∀ (pins:List (Addr×Obj)) (s:Shared) (σ:St) (H:Hp) (R:It->Hp->Prop),Inv X pins σ H s->wi σ H R ->
    wpAny (model X.prog X.w) X.A (eval iter X.env) (fun v s1=>wpAny (model X.prog X.w) X.A (pyIter v) (PIE X pins σ tg R) X.xe s1) X.xe s
theorem a9U {n:String} {Q:Unit->Shared->Prop} (ho:s.heap.get? it=some o) (hc:o.cls = .type n) (hd:o.data = .fields vs)
    (hn:["enumerate", "zip", "dict_itemiterator", "dict_reverseitemiterator", "odict_iterator", "itertools.zip_longest", "itertools.pairwise"].contains n=false) (hQ:Q () s):wpAny M A (letOwnedTupleGo tg (.ref it) u) Q E s:=by
  unfold letOwnedTupleGo
  cases tg <;> first
    | exact aq hQ
    | (cases u <;> first
        | exact aq hQ
        | (refine aj (wpAny_load ho ?_)
           rw [hc,hd];show wpAny M A (if (["enumerate", "zip", "dict_itemiterator", "dict_reverseitemiterator", "odict_iterator", "itertools.zip_longest", "itertools.pairwise"].contains n&&vs[0]? == some (rawInt _))=true then _ else _) Q E s;rw [if_neg (by intro h;rw [hn,Bool.false_and] at h;cases h)];exact aq hQ))
noncomputable def Itl (K:cu) (a:Addr):It :=
  ⟨fun i H=>∃ xs x,SqL K H a xs/\xs[i]?=some x,fun i H x H'=>H'=H/\∀ xs,SqL K H a xs->xs[i]?=some x,fun i H=>∃ xs,SqL K H a xs/\xs.length<=i⟩
noncomputable def Itt (K:cu) (a:Addr):It :=
  ⟨fun i H=>∃ xs x,SqT K H a xs/\xs[i]?=some x,fun i H x H'=>H'=H/\∀ xs,SqT K H a xs->xs[i]?=some x,fun i H=>∃ xs,SqT K H a xs/\xs.length<=i⟩
noncomputable def Itr (lo:Int) (n:Nat):It:=⟨fun i _=>i < n,fun i H x H'=>H'=H/\x = .int (lo+i),fun i _=>n<=i⟩
theorem ad6 {w:World} {K:cu} (a it:Addr):Turn cm tl P w K tg (Itl K a) [it] it (fun i h=>h.IsListIter it a i) where
  mem:=by simp
  obj:=fun i h st b hb=>by
    have e:b=it:=by simpa using hb
    subst e;obtain ⟨o,e,c,d⟩:=st;exact ⟨o,e,fun v z=>by rw [d] at z;cases z⟩
  keep:=fun i h h' st k=>st.at fun o e=>k it (by simp) o e
  item:=by
    intro X hP hw hK hc ht i pins s σ H E I hf st hg;subst hP hw hK;obtain ⟨xs,x,hq,hx⟩:=hg;obtain ⟨its,rv,p,hz⟩:=I.list hq;obtain ⟨u,hu,ru⟩:=rv.get hx;obtain ⟨f0,f1,f2,f3,f4,f5⟩:=hf it (by simp);refine wpAny_pyNext_list_item st p.isList (x:=u) (by simpa using hu) fun h' st' sb=>?_;have I1:Inv X pins σ H { s with heap:=h' }:=I.turned (t':=s.toks) (fun b o hb e=>(sb.2 b hb).trans e) f0 f1 f3 f4 f5;obtain ⟨o,e,c,d⟩:=id st';exact ⟨u,rfl,a9U (s:={ s with heap:=h' }) e c d (by decide) ⟨x,H,I1,ru,⟨rfl,fun ys hy=>by rw [I.apT hy hq];exact hx⟩,st',fun b hb=>(hf b hb).1⟩⟩
  done:=by
    intro X hP hw hK hc ht i pins s σ H E I hf st hg;subst hP hw hK;obtain ⟨xs,hq,hx⟩:=hg;obtain ⟨its,rv,p,hz⟩:=I.list hq;obtain ⟨f0,f1,f2,f3,f4,f5⟩:=hf it (by simp);have hl:=rv.length;exact anH (I.hnd.heap I.hok) st p.isList (by simp;omega) fun h' eb=>⟨rfl,I.turned (t':=s.toks) (fun b o hb e=>eb b o hb e) f0 f1 f3 f4 f5⟩
  self:=fun _ _ _ _ _ st h=>wpAny_pyIter_listiter st h
theorem a9V {w:World} {K:cu} (a it:Addr):Turn cm tl P w K tg (Itt K a) [it] it (fun i h=>h.IsTupleIter it a i) where
  mem:=by simp
  obj:=fun i h st b hb=>by
    have e:b=it:=by simpa using hb
    subst e;obtain ⟨o,e,c,d⟩:=st;exact ⟨o,e,fun v z=>by rw [d] at z;cases z⟩
  keep:=fun i h h' st k=>st.at fun o e=>k it (by simp) o e
  item:=by
    intro X hP hw hK hc ht i pins s σ H E I hf st hg;subst hP hw hK;obtain ⟨xs,x,hq,hx⟩:=hg;obtain ⟨its,rv,p,hz⟩:=I.tuple hq;obtain ⟨u,hu,ru⟩:=rv.get hx;obtain ⟨f0,f1,f2,f3,f4,f5⟩:=hf it (by simp);refine wpAny_pyNext_tuple_item st (show s.heap.IsTuple a its.toArray from p) (x:=u) (by simpa using hu) fun h' st' sb=>?_;have I1:Inv X pins σ H { s with heap:=h' }:=I.turned (t':=s.toks) (fun b o hb e=>(sb.2 b hb).trans e) f0 f1 f3 f4 f5;obtain ⟨o,e,c,d⟩:=id st';exact ⟨u,rfl,a9U (s:={ s with heap:=h' }) e c d (by decide) ⟨x,H,I1,ru,⟨rfl,fun ys hy=>by rw [I.a6R hy hq];exact hx⟩,st',fun b hb=>(hf b hb).1⟩⟩
  done:=by
    intro X hP hw hK hc ht i pins s σ H E I hf st hg;subst hP hw hK;obtain ⟨xs,hq,hx⟩:=hg;obtain ⟨its,rv,p,hz⟩:=I.tuple hq;obtain ⟨f0,f1,f2,f3,f4,f5⟩:=hf it (by simp);have hl:=rv.length;exact apO (I.hnd.heap I.hok) st (show s.heap.IsTuple a its.toArray from p) (by simp;omega) fun h' eb=>⟨rfl,I.turned (t':=s.toks) (fun b o hb e=>eb b o hb e) f0 f1 f3 f4 f5⟩
  self:=fun _ _ _ _ _ st h=>wpAny_pyIter_tupleiter st h
theorem ajQ {w:World} {K:cu} (it:Addr) (lo:Int) (n:Nat):Turn cm tl P w K tg (Itr lo n) [it] it (fun i h=>IsRangeIter h it (lo+(i:Nat) * 1) ((n:Int) - (i:Nat)) 1) where
  mem:=by simp
  obj:=fun i h st b hb=>by
    have e:b=it:=by simpa using hb
    subst e
    exact ⟨_,st,fun v z=>by
      have z':Data.fields _=Data.cell v:=z;cases z'⟩
  keep:=fun i h h' st k=>k it (by simp) _ st
  item:=by
    intro X hP hw hK hc ht i pins s σ H E I hf st hg;subst hP hw hK;obtain ⟨f0,f1,f2,f3,f4,f5⟩:=hf it (by simp);have hi:i < n:=hg;refine wpAny_pyNext_range_item st (by omega) fun h' st' kk=>?_;have I1:Inv X pins σ H { s with heap:=h',toks:=s.toks+1 }:=I.turned (fun b o hb e=>(kk.2 b hb).trans e) f0 f1 f3 f4 f5
    have st2:IsRangeIter h' it (lo+((i+1:Nat):Int) * 1) ((n:Int) - ((i+1:Nat):Int)) 1:=by
      have e1:lo+((i:Nat):Int) * 1+1=lo+((i+1:Nat):Int) * 1:=by omega
      have e2:(n:Int) - ((i:Nat):Int) - 1=(n:Int) - ((i+1:Nat):Int):=by omega
      rw [← e1,← e2];exact st'
    refine ⟨_,rfl,a9U (s:={ s with heap:=h',toks:=s.toks+1 }) (n := "range_iterator") st2 rfl rfl (by decide) ⟨.int (lo+i),H,I1,⟨s.toks,?_⟩,⟨rfl,rfl⟩,st2,fun b hb=>(hf b hb).1⟩⟩;rw [Int.mul_one]
  done:=by
    intro X hP hw hK hc ht i pins s σ H E I hf st hg;subst hP hw hK;obtain ⟨f0,f1,f2,f3,f4,f5⟩:=hf it (by simp);exact apP (I.hnd.heap I.hok) st (by have:n<=i:=hg;omega) fun h' eb=>⟨rfl,I.turned (t':=s.toks) (fun b o hb e=>eb b o hb e) f0 f1 f3 f4 f5⟩
  self:=fun _ _ _ _ _ st h=>wpAny_pyIter_rangeiter st h
end
variable {fp:List Addr}{body:List Stmt}
section
section
variable {X:Cx} {tg:Expr}
theorem apW {σ:St} {R:It->Hp->Prop} {lo hi:Int} {t u v:Tok} {tk:Nat} (I:Inv X pins σ H s) (h1:-(2 ^ 62)<=lo) (h2:lo < 2 ^ 62) (h3:-(2 ^ 62)<=hi) (h4:hi < 2 ^ 62)
    (q:R (Itr lo (hi - lo).toNat) H):wpAny (model X.prog X.w) X.A (pyIter (.ref s.heap.objs.size)) (PIE X pins σ tg R) E { s with heap:=s.heap.push { cls := .type "range",data := .fields #[.int lo t,.int hi u,.int 1 v] },toks:=tk }:=by
  refine wpAny_pyIter_range (IsRange.new ..) (small_one h1 h2 h3 h4) ?_;have I1:Inv X pins σ H { s with heap:=s.heap.push { cls := .type "range",data := .fields #[.int lo t,.int hi u,.int 1 v] },toks:=tk }:=I.kept fun b o e=>ao _ e
  refine ⟨(s.heap.push { cls := .type "range",data := .fields #[.int lo t,.int hi u,.int 1 v] }).objs.size,[(s.heap.push { cls := .type "range",data := .fields #[.int lo t,.int hi u,.int 1 v] }).objs.size],_,_,H,rfl,
    I1.kept (t':=tk) fun b o e=>ao _ e,ajQ _ lo (hi - lo).toNat,?_,fun b hb=>?_,q⟩
  . have e1:lo+((0:Nat):Int) * 1=lo:=by simp
    have e2:(((hi - lo).toNat:Nat):Int) - ((0:Nat):Int)=Builtin.Range.rangeSize lo hi 1:=by rw [rangeSize_one];split <;> omega
    show IsRangeIter _ _ (lo+((0:Nat):Int) * 1) ((((hi - lo).toNat:Nat):Int) - ((0:Nat):Int)) 1;rw [e1,e2];exact cg _ rfl
  . have e:b=(s.heap.push { cls := .type "range",data := .fields #[.int lo t,.int hi u,.int 1 v] }).objs.size:=by simpa using hb
    subst e;exact I1.a6T (au _) (I1.hok.fresh (au _))
noncomputable def aHC (ta:TA):TI:=fun σ H R=>ta σ H fun vs H1=>∃ j:Int,vs=[.int j]/\-(2 ^ 62)<=j/\j < 2 ^ 62/\R (Itr 0 j.toNat) H1
theorem ad7 {a:Expr} {ta:TA} {p:Pos} (hg:Gl X "range") (hm:X.mg "range" = none) (ha:PA X [a] ta) (hs:starEach [a] X.env=[(false,eval a X.env)]:=by rfl):PI X tg (.Call (.Name "range" p) [a] [] pos) (aHC ta):=by
  intro pins s σ H R I h;refine Call_ (a3P I hg hm boot_range (PyProof.Rows.callWith_type1 (f9 (ha pos pins s σ H _ I h) fun us s1 ⟨vs,H1,I1,r1,q1⟩=>?_) hs rfl));obtain ⟨j,e,q1,q2,q⟩:=q1;subst e;cases r1 with
  | cons r rr =>
    cases rr;obtain ⟨t,rfl⟩:=r;exact call_range_1 (apW I1 (by omega) (by omega) q1 q2 (by simpa using q))
noncomputable def aM4 (wi:TI) (g:TG) (tb:TS):TS:=fun D σ H=>wi σ H fun J H1=>∃ W:Nat->Nat->St->Hp->Prop,(∃ m,W 0 m σ H1)/\∀ i m σ H,W i m σ H ->
  (J.stop i H/\D.nx σ H)∨(J.go i H/\∃ N:St->Hp->Prop,(∀ σ' H',N σ' H'->∃ m',m' < m/\W (i+1) m' σ' H')/\∀ x H',J.yld i H x H'->g x σ H' fun σ2 H2=>tb { D with nx:=N,ct:=N,bk:=D.nx } σ2 H2)
noncomputable def a6U (fp:List Addr) (h:Heap):List (Addr×Obj):=fp.filterMap fun b=>(h.get? b).map fun o=>(b,o)
theorem yJ (hb:b∈fp) (e:h.get? b=some o):(b,o)∈a6U fp h:=wz.mpr ⟨b,hb,by rw [e];rfl⟩
theorem anP {p:Addr×Obj} (hp:p∈a6U fp h):p.1∈fp/\h.get? p.1=some p.2:=by
  obtain ⟨b,hb,e⟩:=wz.mp hp;cases q:h.get? b with
  | none=>rw [q] at e;cases e
  | some o =>
    rw [q] at e;have e':(b,o)=p:=gk.inj e;subst e';exact ⟨hb,q⟩
theorem Inv.pinned {σ:St} (I:Inv X pins σ H s) (hf:∀ b∈fp,a6S X pins H b) (ho:∀ b∈fp,∃ o,s.heap.get? b=some o/\∀ v,o.data ≠ .cell v):Inv X (pins++a6U fp s.heap) σ H s :=
  I.alM fun p hp=>(oh.mp hp).elim (fun z=>I.pin p (jq _ z)) fun z=>by
    obtain ⟨hb,e⟩:=anP z;obtain ⟨f0,f1,f2,_⟩:=hf p.1 hb;obtain ⟨o,e',d⟩:=ho p.1 hb;rw [e] at e';cases e';exact ⟨e,f0,f1,f2,d⟩
theorem Inv.a5C {pl:List (Addr×Obj)} {σ:St} (I:Inv X (pins++pl) σ H s):Inv X pins σ H s:=I.alM fun p hp=>I.pin p (jq _ (vp _ hp))
theorem apY {iter:Expr} {wi:TI} {g:TG} {tb:TS} (hp:PassesOwn (model X.prog X.w) X.A X.env X.xe) (hi:PI X tg iter wi) (hg:PG X tg g) (hb:PSs X body tb)
    (hs:∀ x,foldedSetIterable iter X.env x=pure x:=by intro _;rfl):PS X (.For tg iter body [] pos) (aM4 wi g tb):=by
  intro pins s σ H D I h;refine wpAny_For (f9 (hi pins s σ H _ I h) fun v s1 h1=>f9 h1 fun itv s2 h2=>?_) hs;obtain ⟨it,fp,tn,J,H2,e,I2,T,st2,f2,W,⟨m0,w0⟩,turn⟩:=h2;subst e;have stat:∀ {H':Hp},(∀ b∈fp,H' b=none)->∀ b∈fp,a6S X pins H' b:=fun hn b hb=>⟨hn b hb,(f2 b hb).2⟩;refine codeAny_forLoop_any (fun n s'=>∃ i σ' H',Inv X pins σ' H' s'/\tn i s'.heap/\(∀ b∈fp,H' b=none)/\W i n σ' H') ?_ m0 ⟨0,σ,H2,I2,st2,fun b hb=>(f2 b hb).1,w0⟩;rintro n s3 ⟨i,σ3,H3,I3,st3,fr3,w3⟩;rcases turn i n σ3 H3 w3 with ⟨stop,qn⟩ | ⟨go,N,hN,step⟩
  . refine wpAny_passesOwn hp (f9 (T.done X rfl rfl rfl (fun h=>h) (fun _ h=>h) i pins s3 σ3 H3 X.xe I3 (stat fr3) st3 stop) fun r s4 ⟨hr,I4⟩=>?_);subst hr;exact wpAny_execs_nil ⟨σ3,H3,I4,qn⟩
  . refine wpAny_passesOwn hp (f9 (T.item X rfl rfl rfl (fun h=>h) (fun _ h=>h) i pins s3 σ3 H3 X.xe I3 (stat fr3) st3 go) fun r s4 ⟨u,hr,h4⟩=>?_);subst hr;refine wpAny_passesOwn hp (f9 h4 fun _ s5 ⟨x,H5,I5,r5,y5,st5,fr5⟩=>?_);have I5':=I5.pinned (stat fr5) (T.obj _ _ st5);refine wpAny_passesOwn hp (f9 (hg _ s5 σ3 H5 x u _ I5' r5 (step x H5 y5)) fun _ s6 ⟨σ6,H6,I6,q6⟩=>?_);refine wpAny_passesOwn hp (f9 (hb _ s6 σ6 H6 _ I6 q6) fun f s7 q7=>?_)
    have again:∀ {σ7:St} {H7:Hp},Inv X (pins++a6U fp s5.heap) σ7 H7 s7->N σ7 H7->∃ m,m < n/\∃ i σ' H',Inv X pins σ' H' s7/\tn i s7.heap/\(∀ b∈fp,H' b=none)/\W i m σ' H':=fun {σ7 H7} I7 n7=>by
      obtain ⟨m',hm,w7⟩:=hN σ7 H7 n7;refine ⟨m',hm,i+1,σ7,H7,I7.a5C,T.keep _ _ _ st5 fun b hb o e=>(I7.pin (b,o) (jq _ (jq _ (yJ hb e)))).1,fun b hb=>?_,w7⟩;obtain ⟨o,e,d⟩:=T.obj _ _ st5 b hb;exact (I7.pin (b,o) (jq _ (jq _ (yJ hb e)))).2.1
    cases f with
    | next=>obtain ⟨σ7,H7,I7,n7⟩:=q7;exact again I7 n7
    | cont=>obtain ⟨σ7,H7,I7,n7⟩:=q7;exact again I7 n7
    | brk=>obtain ⟨σ7,H7,I7,q7⟩:=q7;exact ⟨σ7,H7,I7.a5C,q7⟩
    | ret v=>obtain ⟨x7,σ7,H7,I7,r7,q7⟩:=q7;exact ⟨x7,σ7,H7,I7.a5C,r7,q7⟩
end
end
variable {g:Int->Int->Int}{f:Value->Value->Sem Value}{op':CmpOp}{y:V}
section
noncomputable abbrev R2:=V->V->Hp->VK->Prop
noncomputable def wK (X:Cx) (f:Value->Value->Sem Value) (r:R2):Prop :=
  ∀ (pins:List (Addr×Obj)) (s:Shared) (σ:St) (H:Hp) (x y:V) (v u:Value) (Q:VK),Inv X pins σ H s->RelV x v->RelV y u->r x y H Q ->
    wpAny (model X.prog X.w) X.A (f v u) (EP X pins σ Q) X.xe s
noncomputable def UnR (X:Cx) (f:Value->Sem Value) (r:V->Hp->VK->Prop):Prop :=
  ∀ (pins:List (Addr×Obj)) (s:Shared) (σ:St) (H:Hp) (x:V) (v:Value) (Q:VK),Inv X pins σ H s->RelV x v->r x H Q ->
    wpAny (model X.prog X.w) X.A (f v) (EP X pins σ Q) X.xe s
noncomputable def wM (X:Cx) (f:Value) (r:List V->Hp->VK->Prop):Prop :=
  ∀ (pins:List (Addr×Obj)) (s:Shared) (σ:St) (H:Hp) (xs:List V) (us:List Value) (Q:VK),Inv X pins σ H s->Vals xs us->r xs H Q ->
    wpAny (model X.prog X.w) X.A (call f us) (EP X pins σ Q) X.xe s
noncomputable def tOp (r:R2) (ta tb:TE):TE:=fun σ H Q=>ta σ H fun x H1=>tb σ H1 fun y H2=>r x y H2 Q
noncomputable def tUn (r:V->Hp->VK->Prop) (ta:TE):TE:=fun σ H Q=>ta σ H fun x H1=>r x H1 Q
noncomputable def rI (C:Int->Int->Prop) (g:Int->Int->V):R2:=fun x y H Q=>∃ i j,x = .int i/\y = .int j/\C i j/\Q (g i j) H
noncomputable def rI0 (g:Int->Int->V):R2:=fun x y H Q=>∃ i j,x = .int i/\y = .int j/\Q (g i j) H
noncomputable def rU (g:Int->V):V->Hp->VK->Prop:=fun x H Q=>∃ i,x = .int i/\Q (g i) H
variable {r:R2}
section
variable {X:Cx} {a b c:Expr} {ta tb tc:TE} {pos:Pos}
theorem aBL (ha:PE X a ta) (hb:PE X b tb) {σ:St} (I:Inv X pins σ H s)
    (h:ta σ H fun x H1=>tb σ H1 fun y H2=>R x y H2)
    (hf:∀ v u s2 x y H2,Inv X pins σ H2 s2->RelV x v->RelV y u->R x y H2->wpAny (model X.prog X.w) X.A (f v u) Q X.xe s2) :
    wpAny (model X.prog X.w) X.A (eval a X.env) (fun v s₁=>wpAny (model X.prog X.w) X.A (eval b X.env) (fun u s₂=>wpAny (model X.prog X.w) X.A (f v u) Q X.xe s₂) X.xe s₁) X.xe s:=by
  refine f9 (ha pins s σ H _ I h) fun v s1 ⟨x,H1,I1,r1,q1⟩=>?_;refine f9 (hb pins s1 σ H1 _ I1 q1) fun u s2 ⟨y,H2,I2,r2,q2⟩=>?_;exact hf v u s2 x y H2 I2 r1 r2 q2
theorem aHD {op:Operator} (ho:wK X (binaryOp op) r) (ha:PE X a ta) (hb:PE X b tb):PE X (.BinOp a op b pos) (tOp r ta tb):=by
  intro pins s σ H Q I h;exact wpAny_BinOp (aBL ha hb I h fun v u s2 x y H2 I2 rx ry q=>ho pins s2 σ H2 x y v u Q I2 rx ry q)
theorem aHE {op:UnaryOp} {r:V->Hp->VK->Prop} (ho:UnR X (unaryOp op) r) (ha:PE X a ta):PE X (.UnaryOp op a pos) (tUn r ta):=by
  intro pins s σ H Q I h;exact UnaryOp_ (f9 (ha pins s σ H _ I h) fun v s1 ⟨x,H1,I1,r1,q1⟩=>ho pins s1 σ H1 x v Q I1 r1 q1)
theorem opI {C:Int->Int->Prop}
    (rule:∀ (i j:Int) (t u:Tok) (s:Shared) (Q:Value->Shared->Prop) (E:Value->Shared->Prop),C i j->Q (.int (g i j) s.toks) { s with toks:=s.toks+1 }->wpAny (model X.prog X.w) X.A (f (.int i t) (.int j u)) Q E s) :
    wK X f (rI C fun i j => .int (g i j)):=by
  intro pins s σ H x y v u Q I rx ry h;obtain ⟨i,j,rfl,rfl,hc,q⟩:=h;obtain ⟨t,rfl⟩:=rx;obtain ⟨t',rfl⟩:=ry;exact rule i j t t' s _ _ hc ⟨.int (g i j),H,I.tok _,⟨_,rfl⟩,q⟩
theorem aHF
    (rule:∀ (i j:Int) (t u:Tok) (s:Shared) (Q:Value->Shared->Prop) (E:Value->Shared->Prop),Q (.int (g i j) s.toks) { s with toks:=s.toks+1 }->wpAny (model X.prog X.w) X.A (f (.int i t) (.int j u)) Q E s) :
    wK X f (rI0 fun i j => .int (g i j)):=by
  intro pins s σ H x y v u Q I rx ry h;obtain ⟨i,j,rfl,rfl,q⟩:=h;obtain ⟨t,rfl⟩:=rx;obtain ⟨t',rfl⟩:=ry;exact rule i j t t' s _ _ ⟨.int (g i j),H,I.tok _,⟨_,rfl⟩,q⟩
theorem avO {g:Int->Int->Bool}
    (rule:∀ (i j:Int) (t u:Tok) (s:Shared) (Q:Value->Shared->Prop) (E:Value->Shared->Prop),Q (.bool (g i j)) s->wpAny (model X.prog X.w) X.A (f (.int i t) (.int j u)) Q E s) :
    wK X f (rI0 fun i j => .bl (g i j)):=by
  intro pins s σ H x y v u Q I rx ry h;obtain ⟨i,j,rfl,rfl,q⟩:=h;obtain ⟨t,rfl⟩:=rx;obtain ⟨t',rfl⟩:=ry;exact rule i j t t' s _ _ ⟨.bl (g i j),H,I,rfl,q⟩
noncomputable def aBM (i j:Int):Prop:=0 < j/\j < 1073741824
noncomputable def aBN (i j:Int):Prop:=0<=j/\j<=1000000/\i.natAbs < 2 ^ 64
noncomputable def apZ (i j:Int):Prop:=(-(2 ^ 64) < i/\i < 2 ^ 64)∨(-(2 ^ 64) < j/\j < 2 ^ 64)
theorem apZ.ok {i j:Int} (h:apZ i j):IntMulOk i j:=by
  rcases h with ⟨h1,h2⟩ | ⟨h1,h2⟩
  . exact .of_left (intBits_le_64 h1 h2)
  . exact .of_right (intBits_le_64 h1 h2)
theorem aBO:wK X (binaryOp .Add) (rI0 fun i j => .int (i+j)):=aHF fun _ _ _ _ _ _ _ q=>add_int q
theorem aBP:wK X (binaryOp .Sub) (rI0 fun i j => .int (i - j)):=aHF fun _ _ _ _ _ _ _ q=>sub_int q
theorem aBQ:wK X (binaryOp .Mult) (rI apZ fun i j => .int (i * j)):=opI fun _ _ _ _ _ _ _ hc q=>mul_int q hc.ok
theorem avP:wK X (binaryOp .FloorDiv) (rI aBM fun i j => .int (i / j)):=opI fun i j _ _ _ _ _ hc q=>by
  have h1:(0:Int) < j:=hc.1;have h2:j < 1073741824:=hc.2;exact floordiv_int (by omega) (by rw [Int.fdiv_eq_ediv_of_nonneg i (by omega)];exact q) (.inl (PyProof.noPylong_small (by omega)))
theorem aBR:wK X (binaryOp .Mod) (rI (fun _ j=>0 < j) fun i j => .int (i % j)):=opI fun i j _ _ _ _ _ hc q=>by
  have h1:(0:Int) < j:=hc;exact mod_int' (by omega) (by rw [Int.fmod_eq_emod_of_nonneg i (by omega)];exact q)
theorem aBS:wK X (binaryOp .Pow) (rI aBN fun i j => .int (i ^ j.toNat)):=opI fun _ _ _ _ _ _ _ hc q=>pow_int_small hc.1 hc.2.1 hc.2.2 q
theorem unI {f:Value->Sem Value} {g:Int->Int}
    (rule:∀ (i:Int) (t:Tok) (s:Shared) (Q:Value->Shared->Prop) (E:Value->Shared->Prop),Q (.int (g i) s.toks) { s with toks:=s.toks+1 }->wpAny (model X.prog X.w) X.A (f (.int i t)) Q E s) :
    UnR X f (rU fun i => .int (g i)):=by
  intro pins s σ H x v Q I rx h;obtain ⟨i,rfl,q⟩:=h;obtain ⟨t,rfl⟩:=rx;exact rule i t s _ _ ⟨.int (g i),H,I.tok _,⟨_,rfl⟩,q⟩
theorem aBT:UnR X (unaryOp .USub) (rU fun i => .int (-i)):=unI fun _ _ _ _ _ q=>neg_int q
end
variable {r':R2}{x:V}
section
variable {X:Cx} {a b c:Expr} {ta tb tc:TE} {pos:Pos}
theorem aeJ {σ:St} {Q:VK} {k k':Bool} (I:Inv X pins σ H s) (q:Q (.bl k) H) (e:k=k'):EP X pins σ Q (.bool k') s:=by
  subst e;exact ⟨.bl k,H,I,rfl,q⟩
theorem aHG:wK X (compareOp .Lt) (rI0 fun i j => .bl (decide (i < j))):=avO fun _ _ _ _ _ _ _ q=>lt_int q
theorem aHH:wK X (compareOp .LtE) (rI0 fun i j => .bl (decide (i<=j))):=avO fun _ _ _ _ _ _ _ q=>le_int q
theorem aHI:wK X (compareOp .Gt) (rI0 fun i j => .bl (decide (j < i))):=avO fun _ _ _ _ _ _ _ q=>gt_int q
theorem aHJ:wK X (compareOp .GtE) (rI0 fun i j => .bl (decide (j<=i))):=avO fun _ _ _ _ _ _ _ q=>ge_int q
theorem anQ:wK X (compareOp .In) (fun x y H Q=>∃ i j,x = .str i/\y = .str j/\Q (.bl (!(Builtin.Str.occurrences j i 0 j.length 1).isEmpty)) H):=by
  intro pins s σ H x y v u Q I rx ry h;obtain ⟨i,j,rfl,rfl,q⟩:=h;obtain ⟨t,rfl⟩:=rx;obtain ⟨t',rfl⟩:=ry;exact in_str (aeJ I q rfl)
theorem aBU:wK X (compareOp .Is) (fun x y H Q=>y = .non/\Q (.bl (decide (x = .non))) H):=by
  intro pins s σ H x y v u Q I rx ry h;obtain ⟨rfl,q⟩:=h;cases ry;refine is_none_gen (aeJ I q ?_)
  cases x <;> first
    | (cases rx;rfl)
    | (obtain ⟨t,rfl⟩:=rx;rfl)
theorem avQ:wK X (compareOp .IsNot) (fun x y H Q=>y = .non/\Q (.bl (!decide (x = .non))) H):=by
  intro pins s σ H x y v u Q I rx ry h;obtain ⟨rfl,q⟩:=h;cases ry;refine isnot_none_gen (aeJ I q ?_)
  cases x <;> first
    | (cases rx;rfl)
    | (obtain ⟨t,rfl⟩:=rx;rfl)
theorem aeK:wK X (compareOp .NotIn) (fun x y H Q=>∃ i j,x = .str i/\y = .str j/\Q (.bl (!(!(Builtin.Str.occurrences j i 0 j.length 1).isEmpty))) H):=by
  intro pins s σ H x y v u Q I rx ry h;obtain ⟨i,j,rfl,rfl,q⟩:=h;obtain ⟨t,rfl⟩:=rx;obtain ⟨t',rfl⟩:=ry;exact notIn_str (aeJ I q rfl)
theorem wK.or (h:wK X f r) (h':wK X f r'):wK X f (fun x y H Q=>r x y H Q∨r' x y H Q):=by
  intro pins s σ H x y v u Q I rx ry q;rcases q with q | q
  . exact h pins s σ H x y v u Q I rx ry q
  . exact h' pins s σ H x y v u Q I rx ry q
theorem aM7 (b:Expr) (h:op ≠ .In:=by decide) (h2:op ≠ .NotIn:=by decide):behindInMarks op b=false:=by
  have e1:(op == CmpOp.In)=false:=by cases op <;> first | rfl | exact absurd rfl h
  have e2:(op == CmpOp.NotIn)=false:=by cases op <;> first | rfl | exact absurd rfl h2
  cases b <;> simp [behindInMarks,e1,e2]
theorem avR (ho:wK X (compareOp op) r) (ha:PE X a ta) (hb:PE X b tb) (hm:behindInMarks op b=false):PE X (.Compare a [op] [b] pos) (tOp r ta tb):=by
  intro pins s σ H Q I h;exact wpAny_Compare1 (aBL ha hb I h fun v u s2 x y H2 I2 rx ry q=>ho pins s2 σ H2 x y v u Q I2 rx ry q) hm
noncomputable def aq0 (t:TE):TT:=fun σ H Q=>t σ H fun x H'=>∃ k,x = .bl k/\Q k H'
theorem avS (ho:wK X (compareOp op) r) (ha:PE X a ta) (hb:PE X b tb) (hm:behindInMarks op b=false):PT X (.Compare a [op] [b] pos) (aq0 (tOp r ta tb)):=by
  intro pins s σ H Q I h
  refine wpAny_isTrue_Compare1 (f9 (ha pins s σ H _ I h) fun v s1 ⟨x,H1,I1,r1,q1⟩=>f9 (hb pins s1 σ H1 _ I1 q1) fun u s2 ⟨y,H2,I2,r2,q2⟩ =>
    f9 (ho pins s2 σ H2 x y v u _ I2 r1 r2 q2) fun c s3 ⟨z,H3,I3,r3,k,e,q3⟩=>?_) hm
  subst e;cases r3;exact wpAny_truthy_bool ⟨H3,I3,q3⟩
noncomputable def ajR (r r':R2) (ta tb tc:TE):TE:=fun σ H Q=>ta σ H fun x H1=>tb σ H1 fun y H2=>r x y H2 fun z H3=>∃ k,z = .bl k /\
  (if k=true then tc σ H3 fun w' H4=>r' y w' H4 Q else Q (.bl false) H3)
theorem aq1 (ho:wK X (compareOp op) r) (ho':wK X (compareOp op') r') (ha:PE X a ta) (hb:PE X b tb) (hc:PE X c tc)
    (hm:lastMarks [op,op'] [b,c]=false:=by with_unfolding_all rfl):PE X (.Compare a [op,op'] [b,c] pos) (ajR r r' ta tb tc):=by
  intro pins s σ H Q I h
  refine Compare_chain (f9 (ha pins s σ H _ I h) fun v s1 ⟨x,H1,I1,r1,q1⟩=>chain_link (f9 (hb pins s1 σ H1 _ I1 q1) fun u s2 ⟨y,H2,I2,r2,q2⟩ =>
    f9 (ho pins s2 σ H2 x y v u _ I2 r1 r2 q2) fun d s3 ⟨z,H3,I3,r3,k,e,q3⟩=>?_)) hm
  subst e;cases r3;refine wpAny_truthy_bool ?_;cases k with
  | false=>exact ite_ff ⟨.bl false,H3,I3,rfl,q3⟩
  | true=>exact ite_tt (chain_last (f9 (hc pins s3 σ H3 _ I3 q3) fun w' s4 ⟨z',H4,I4,r4,q4⟩=>ho' pins s4 σ H4 y z' u w' Q I4 r2 r4 q4))
theorem aq2 (ho:wK X (compareOp op) r) (ho':wK X (compareOp op') r') (ha:PE X a ta) (hb:PE X b tb) (hc:PE X c tc)
    (hm:lastMarks [op,op'] [b,c]=false:=by with_unfolding_all rfl):PT X (.Compare a [op,op'] [b,c] pos) (aq0 (ajR r r' ta tb tc)):=by
  intro pins s σ H Q I h
  refine isTrue_chain (f9 (ha pins s σ H _ I h) fun v s1 ⟨x,H1,I1,r1,q1⟩=>test_link (f9 (hb pins s1 σ H1 _ I1 q1) fun u s2 ⟨y,H2,I2,r2,q2⟩ =>
    f9 (ho pins s2 σ H2 x y v u _ I2 r1 r2 q2) fun d s3 ⟨z,H3,I3,r3,k,e,q3⟩=>?_)) hm
  subst e;cases r3;refine wpAny_truthy_bool ?_;cases k with
  | false =>
    obtain ⟨k',e',q'⟩:=q3;cases e';exact ite_ff ⟨H3,I3,q'⟩
  | true =>
    refine ite_tt (test_last (f9 (hc pins s3 σ H3 _ I3 q3) fun w' s4 ⟨z',H4,I4,r4,q4⟩=>f9 (ho' pins s4 σ H4 y z' u w' _ I4 r2 r4 q4) fun d' s5 ⟨z2,H5,I5,r5,k2,e2,q5⟩=>?_));subst e2;cases r5;exact wpAny_truthy_bool ⟨H5,I5,q5⟩
theorem a9W:(sizeLine:Nat) < 2 ^ 63:=by rw [sizeLine_eq];decide
theorem ajS:wK X (binaryOp .Add) (fun x y H Q=>∃ i j,x = .str i/\y = .str j/\i.length+j.length<=sizeLine/\Q (.str (i++j)) H):=by
  intro pins s σ H x y v u Q I rx ry h;obtain ⟨i,j,rfl,rfl,hz,q⟩:=h;obtain ⟨t,rfl⟩:=rx;obtain ⟨t',rfl⟩:=ry;exact add_str (fun t' tk=>⟨.str (i++j),H,I.tok _,⟨_,rfl⟩,q⟩) hz
theorem vals1 (r:Vals [x] us):∃ u,us=[u]/\RelV x u:=by
  cases r with
  | cons r1 r2=>cases r2;exact ⟨_,rfl,r1⟩
theorem vals2 (r:Vals [x,y] us):∃ u w',us=[u,w']/\RelV x u/\RelV y w':=by
  cases r with
  | cons r1 r2 =>
    cases r2 with
    | cons r3 r4=>cases r4;exact ⟨_,_,rfl,r1,r3⟩
theorem anR (hc:X.calm=true):wM X (.builtin "max") (fun xs H Q=>∃ i j,xs=[.int i,.int j]/\Q (.int (if j > i then j else i)) H):=by
  intro pins s σ H xs us Q I r h;obtain ⟨i,j,rfl,q⟩:=h;obtain ⟨u,w',rfl,⟨t,rfl⟩,⟨t',rfl⟩⟩:=vals2 r;refine max_two_ints (I.ok.hd hc) fun h' tk k=>⟨_,H,I.kept k,?_,q⟩;by_cases hj:j > i
  . rw [if_pos hj,if_pos hj];exact ⟨_,rfl⟩
  . rw [if_neg hj,if_neg hj];exact ⟨_,rfl⟩
theorem anS (hc:X.calm=true):wM X (.builtin "min") (fun xs H Q=>∃ i j,xs=[.int i,.int j]/\Q (.int (if j < i then j else i)) H):=by
  intro pins s σ H xs us Q I r h;obtain ⟨i,j,rfl,q⟩:=h;obtain ⟨u,w',rfl,⟨t,rfl⟩,⟨t',rfl⟩⟩:=vals2 r;refine min_two_ints (I.ok.hd hc) fun h' tk k=>⟨_,H,I.kept k,?_,q⟩;by_cases hj:j < i
  . rw [if_pos hj,if_pos hj];exact ⟨_,rfl⟩
  . rw [if_neg hj,if_neg hj];exact ⟨_,rfl⟩
theorem anT:wM X (.type "int") (fun xs H Q=>(∃ i,xs=[.int i]/\Q (.int i) H)∨∃ k,xs=[.bl k]/\Q (.int (if k then 1 else 0)) H):=by
  intro pins s σ H xs us Q I r h;rcases h with ⟨i,rfl,q⟩ | ⟨k,rfl,q⟩
  . obtain ⟨u,rfl,t,rfl⟩:=vals1 r;exact call_int_int ⟨.int i,H,I,⟨_,rfl⟩,q⟩
  . obtain ⟨u,rfl,r1⟩:=vals1 r;cases r1;exact call_int_bool ⟨.int (if k then 1 else 0),H,I.tok _,⟨_,rfl⟩,q⟩
end
end
variable {pl:Sem Bool}{C dx:Addr}{kw:List (Str×Value)}{env:Env}
section
structure ajT (h:Heap) (x dx C:Addr) (mA:Str->Option Value):Prop where
  obj:h.get? x=some (qx C dx)
  ns:h.Ns1 dx mA
  ne:dx≠x
theorem anU {mA:Str->Option Value} (n:h.Ns1 dx mA):∃ od,h.get? dx=some od/\∀ name,a0e name od=some (mA name):=by
  obtain ⟨o,es,ep,ho,hd,hk,_,hm⟩:=n;refine ⟨o,ho,fun name=>?_⟩;have e:=hm name;unfold nsFind findBy at e;rw [← Array.find?_toList] at e;unfold a0e;rw [hd];dsimp only;split
  . rename_i y q;rw [q] at e;exact congrArg some e
  . rename_i q;rw [q] at e
    have a:es.toList.any (·.refKey)=false:=by
      rw [List.any_eq_false];intro y hy;obtain ⟨z,t,hkey⟩:=hk y (Array.mem_toList_iff.mp hy);simp [DictEntry.refKey,hkey]
    have a':¬ es.toList.any (·.refKey)=true:=by rw [a];exact jm
    rw [if_neg a'];exact congrArg some e
theorem ajT.look {x:Addr} {mA:Str->Option Value} (I:ajT h x dx C mA):∃ od,PySem.W.InstAt h x (qx C dx) C (some od)/\∀ name,a0e name od=some (mA name) :=
  let ⟨od,ho,hl⟩:=anU I.ns
  ⟨od,⟨I.obj,rfl,rfl,ho⟩,hl⟩
section
variable {prog:Program} {w:World} {A:Around} {E:Value->Shared->Prop} {s:Shared} {K:cu} {x dx C f:Addr} {mA:Str->Option Value} {name:Str} {v:Value}
theorem get_map {expr:Bool} (X:K.In s.heap) (I:ajT s.heap x dx C mA) (hg:vq K C name=true) (hh:yg K C=true)
    (ha:iw K (.ref C) name=some none) (hv:mA name=some v) (hv':PySem.W.handedIn v=true) (h:Q v { s with toks:=s.toks+1 }) :
    wpAny (model prog w) A (getAttr (.ref x) name expr) Q E s:=by
  obtain ⟨od,J,hl⟩:=I.look;exact PySem.W.get_value X J (zx hg).1 (PySem.W.findObj_own hh ha rfl (by rw [hl,hv])) hv' h
theorem aq3 {Q:Value×List Value->Shared->Prop} (X:K.In s.heap) (I:ajT s.heap x dx C mA) (hg:vq K C name=true)
    (hf:iw K (.ref C) name=some (some (.ref f))) (ht:xg K (.ref f)=true) (hv:mA name=none) (h:Q (.ref f,[.ref x]) s) :
    wpAny (model prog w) A (getMethod (.ref x) name pl) Q E s:=by
  obtain ⟨od,J,hl⟩:=I.look;exact PySem.W.method_fn X J (zx hg).1 (zx hg).2 hf (beq_iff_eq.mp ht) (by show (a0e name od).map (·.isSome)=some false;rw [hl,hv];rfl) h
theorem avT {ns:List Str} {Q:Unit->Shared->Prop} (X:K.In s.heap) (I:ajT s.heap x dx C mA)
    (hs:iw K (.ref C) "__setattr__" = some (some (.builtin "object.__setattr__"))) (hp:PySem.W.plainOver K C=true) (ht:PySem.W.takerIn K C name=some none) (hh:yg K C=true)
    (hw:PySem.Within mA ns) (hsz:ns.length<=sizeLine)
    (h:∀ h',ajT h' x dx C (fun y=>if y=name then some v else mA y)->iz dx s.heap h'->Q () { s with heap:=h',toks:=s.toks+2 }) :
    wpAny (model prog w) A (setAttr (.ref x) name v) Q E s:=by
  obtain ⟨od,J,hl⟩:=I.look;refine PySem.W.set_plain X J hs (PySem.W.osa_open (s:={ s with toks:=s.toks+1 }) (r:=none) X J hp ht fun b=>?_);obtain ⟨cd,hc,hd'⟩:=PySem.W.any_some hh;have hx:s.heap.get? x=some ⟨.ref C,some dx,.plain,#[]⟩:=I.obj;refine aj (aq (aj (aj (wpAny_loadPart hx (aj (jz.here (s:={ s with toks:=s.toks+1 }) (PySem.W.looks_clsIn X hc) ?_))))));rw [hd'];refine aq (a:=some dx) (aj (aq (aj ?_)));refine wpAny_nsSet1 (s:={ s with toks:=s.toks+1 }) I.ns fun h' hn2 hs2=>?_;obtain ⟨oD,esD,epD,hoD,hdD,hcD⟩:=hn2.count (PySem.Within.cons name v hw);refine aj (wpAny_lookBehind hoD (by rw [hdD];exact pastItsLine_dict (jj hcD (by rw [ju];omega))) ?_);exact aq (h _ ⟨(hs2.2 _ (Ne.symm I.ne)).trans I.obj,hn2,I.ne⟩ hs2)
theorem aq4 {R:Result->Shared->Prop} {vs:List Value} (X:K.In s.heap) (hm:PySem.W.makesIn K C=true)
    (hi:iw K (.ref C) "__init__" = some (some (.ref f))) (hf:jh K (.ref f)=some (.type "function"))
    (h:codeAny (model prog w) (A.under (.builtin "type.__call__" ⟨.ref C :: vs,kw⟩)) (.call (.ref f) ⟨.ref (s.heap.objs.size+1) :: vs,kw⟩) (PySem.W.InitBack (s.heap.objs.size+1) R)
      { s with heap:=(s.heap.push nj).push (qx C s.heap.objs.size) }) :
    codeAny (model prog w) A (.call (.ref C) ⟨vs,kw⟩) R s:=by
  obtain ⟨hh,g,d,t,os⟩:=s;exact PySem.W.make_core (PySem.W.makes_of X hm) (PySem.W.looks_findIn X hi) (fun self=>PySem.W.bind_fn X self hf) (.inl rfl) h
end
noncomputable def yK (f:Str) (v:V):List (Str×V)->List (Str×V)
  | []=>[(f,v)]
  | (g,x) :: r=>if g=f then (g,v) :: r else (g,x) :: yK f v r
theorem a88 (f g:Str) (v:V):∀ fs:List (Str×V),(yK f v fs).lookup g=if g=f then some v else fs.lookup g
  | []=>by
    show qe g [(f,v)]=_;by_cases h:g=f
    . have hb:(g == f)=true:=beq_iff_eq.mpr h;simp only [qe,hb,if_pos h]
    . have hb:(g == f)=false:=beq_eq_false_iff_ne.mpr h;simp only [qe,hb,if_neg h]
  | (k,x) :: r=>by
    have ih:=a88 f g v r;rw [show yK f v ((k,x) :: r)=(if k=f then (k,v) :: r else (k,x) :: yK f v r) from rfl];by_cases hk:k=f
    . rw [if_pos hk];by_cases h:g=k
      . have hb:(g == k)=true:=beq_iff_eq.mpr h;simp only [qe,hb,if_pos (h.trans hk)]
      . have hb:(g == k)=false:=beq_eq_false_iff_ne.mpr h;simp only [qe,hb,if_neg (fun e:g=f=>h (e.trans hk.symm))]
    . rw [if_neg hk];by_cases h:g=k
      . have hb:(g == k)=true:=beq_iff_eq.mpr h;simp only [qe,hb,if_neg (fun e:g=f=>hk (h.symm.trans e))]
      . have hb:(g == k)=false:=beq_eq_false_iff_ne.mpr h;simp only [qe,hb];exact ih
theorem a6V (f:Str) (v:V):∀ fs:List (Str×V),f∈(yK f v fs).map (·.1)/\∀ g,g∈fs.map (·.1)->g∈(yK f v fs).map (·.1)
  | []=>⟨by simp [yK],fun g h=>by simp at h⟩
  | (k,x) :: r=>by
    obtain ⟨i1,i2⟩:=a6V f v r;rw [show yK f v ((k,x) :: r)=(if k=f then (k,v) :: r else (k,x) :: yK f v r) from rfl];by_cases hk:k=f
    . rw [if_pos hk];subst hk;exact ⟨by simp,fun g h=>by simpa using h⟩
    . rw [if_neg hk];refine ⟨?_,fun g h=>?_⟩
      . rw [dj];exact jr _ i1
      . rw [dj] at h ⊢;rcases ig.mp h with e | e
        . exact ig.mpr (.inl e)
        . exact jr _ (i2 g e)
theorem a89 (f:Str) (v:V):∀ fs:List (Str×V),(yK f v fs).length<=fs.length+1
  | []=>by simp [yK]
  | (k,x) :: r=>by
    have ih:=a89 f v r;rw [show yK f v ((k,x) :: r)=(if k=f then (k,v) :: r else (k,x) :: yK f v r) from rfl];by_cases hk:k=f
    . rw [if_pos hk,ju,ju];omega
    . rw [if_neg hk,ju,ju];omega
variable {o:Option Value}
theorem yI.some_of (r:yI (some v) o):∃ u,o=some u/\RelV v u:=by
  cases o with
  | none=>exact (show False from r).elim
  | some u=>exact ⟨u,rfl,r⟩
theorem yI.none_of (r:yI none o):o=none:=by
  cases o with
  | none=>rfl
  | some u=>exact (show False from r).elim
theorem anV (r:RelV v u):PySem.W.handedIn u=true:=by
  cases v with
  | non=>cases (show u=Value.none from r);rfl
  | bl b=>cases (show u=Value.bool b from r);rfl
  | int i=>obtain ⟨t,e⟩:=(show ∃ t,u=Value.int i t from r);cases e;rfl
  | str x=>obtain ⟨t,e⟩:=(show ∃ t,u=Value.str x t from r);cases e;rfl
  | byt b=>obtain ⟨t,e⟩:=(show ∃ t,u=Value.bytes b t from r);cases e;rfl
  | flt b=>obtain ⟨t,e⟩:=(show ∃ t,u=Value.float b t from r);cases e;rfl
  | ref a=>cases (show u=Value.ref a from r);rfl
  | ty n=>cases (show u=Value.type n from r);rfl
section
variable {P:Program} {w:World} {H H':Hp} {h h':Heap} {a C dx:Addr} {fs fs':List (Str×V)}
theorem aeL (hok:HOk P w H h) (e:H a=some (.ins C dx fs)):∃ mA,ajT h a dx C mA/\(∀ f,yI (fs.lookup f) (mA f))/\PySem.Within mA (fs.map (·.1))/\fs.length<=1000/\H dx=some (.own a):=by
  obtain ⟨d,z,ne,ob,mA,n,r,q⟩:=(show gQ P w H h a (.ins C dx fs) from hok a _ e);exact ⟨mA,⟨ob,n,ne⟩,r,q,z,d⟩
end
structure Cls (K:cu) (C:Addr):Prop where
  pg:vq K C Str.empty=true
  hd:yg K C=true
  po:PySem.W.plainOver K C=true
  sa:iw K (.ref C) "__setattr__" = some (some (.builtin "object.__setattr__"))
theorem Cls.get {K:cu} (c:Cls K C) (f:Str):vq K C f=true:=c.pg
noncomputable def oR (K:cu) (C:Addr) (f:Str):Prop:=iw K (.ref C) f=some none
variable {f:Str}
theorem oR.taker {K:cu} (n:oR K C f):PySem.W.takerIn K C f=some none:=by
  unfold PySem.W.takerIn;rw [show iw K (.ref C) f=some none from n];rfl
structure Meth (K:cu) (C:Addr) (m:Str) (f:Addr):Prop where
  at_:iw K (.ref C) m=some (some (.ref f))
  fn:xg K (.ref f)=true
  kp:jy K (.ref f)=true
section
variable {X:Cx} {pins:List (Addr×Obj)} {σ:St} {H:Hp} {s:Shared} {a C dx:Addr} {fs:List (Str×V)} {f:Str} {v:V} {A:Around} {E:Value->Shared->Prop}
theorem ajU {b:Bool} (I:Inv X pins σ H s) (e:H a=some (.ins C dx fs)) (c:Cls X.K C) (n:oR X.K C f) (l:fs.lookup f=some v)
    (h:∀ u s',Inv X pins σ H s'->RelV v u->Q u s'):wpAny (model X.prog X.w) A (getAttr (.ref a) f b) Q E s:=by
  obtain ⟨mA,O,r,_,_,_⟩:=aeL I.hok e;obtain ⟨u,hu,ru⟩:=yI.some_of (v:=v) (o:=mA f) (by rw [← l];exact r f);exact get_map I.kIn O (c.get f) c.hd n hu (anV ru) (h u _ (I.tok _) ru)
theorem a9X {m:Str} {g:Addr} {Q:Value×List Value->Shared->Prop} (I:Inv X pins σ H s) (e:H a=some (.ins C dx fs)) (c:Cls X.K C) (k:Meth X.K C m g) (l:fs.lookup m=none)
    (h:Q (.ref g,[.ref a]) s):wpAny (model X.prog X.w) A (getMethod (.ref a) m pl) Q E s:=by
  obtain ⟨mA,O,r,_,_,_⟩:=aeL I.hok e;have hn:mA m=none:=yI.none_of (by rw [← l];exact r m);exact aq3 I.kIn O (c.get m) k.at_ k.fn hn h
theorem ajV {Q:Unit->Shared->Prop} (I:Inv X pins σ H s) (e:H a=some (.ins C dx fs)) (c:Cls X.K C) (n:oR X.K C f) (hl:fs.length < 1000) (ry:RelV y u)
    (h:∀ s',Inv X pins σ (upd H a (.ins C dx (yK f y fs))) s'->Q () s'):wpAny (model X.prog X.w) A (setAttr (.ref a) f u) Q E s:=by
  obtain ⟨mA,O,r,wi,_,ho⟩:=aeL I.hok e;have hz:(fs.map (·.1)).length<=sizeLine:=by rw [dh,sizeLine_eq];omega
  refine avT I.kIn O c.sa c.po n.taker c.hd wi hz fun h' O' sb=>h _ ?_;have hd:∃ o,h'.get? dx=some o:=let ⟨o,_,_,e',_⟩:=O'.ns;⟨o,e'⟩
  refine I.write (x:=a) (e:=dx) (by rw [e];exact True.intro) (.inr ho) (fun b q hb z=>(sb.2 b hb).trans z) hd ?_;refine ⟨by rw [aX O.ne];exact ho,?_,O.ne,O'.obj,_,O'.ns,fun g=>?_,fun g hg=>?_⟩
  . have:=a89 f y fs;omega
  . show yI ((yK f y fs).lookup g) (if g=f then some u else mA g);rw [a88];by_cases q:g=f
    . rw [if_pos q,if_pos q];exact ry
    . rw [if_neg q,if_neg q];exact r g
  . by_cases q:g=f
    . rw [q];exact (a6V f y fs).1
    . refine (a6V f y fs).2 g (wi g fun z=>hg ?_);show (if g=f then some u else mA g)=none;rw [if_neg q];exact z
theorem Inv.made (I:Inv X pins σ H s):Inv X pins σ (upd (upd H s.heap.objs.size (.own (s.heap.objs.size+1))) (s.heap.objs.size+1) (.ins C s.heap.objs.size []))
    { s with heap:=(s.heap.push nj).push (qx C s.heap.objs.size) }:=by
  have e1:(s.heap.push nj).get? s.heap.objs.size=some nj:=cg s.heap rfl
  have e2:((s.heap.push nj).push (qx C s.heap.objs.size)).get? (s.heap.objs.size+1)=some (qx C s.heap.objs.size):=by
    have:=cg (s.heap.push nj) (o:=qx C s.heap.objs.size) rfl
    rwa [a0d] at this
  have e3:(s.heap.push nj).Ns s.heap.objs.size (fun _=>none):=⟨nj,#[],_,e1,rfl,(fun e he=>absurd he (by simp)),fun _=>rfl⟩;have I1:=I.laid (a:=s.heap.objs.size) (o := .own (s.heap.objs.size+1)) (h':=s.heap.push nj) (t':=s.toks) (fun b u q=>ao _ q) (au _) ⟨_,e1⟩;refine I1.laid (a:=s.heap.objs.size+1) (o := .ins C s.heap.objs.size []) (t':=s.toks) (fun b u q=>ao _ q) (xq (a0d _ _)) ?_;have ne:s.heap.objs.size≠s.heap.objs.size+1:=dw (Nat.lt_succ_self _);refine ⟨by rw [aX ne,aJ],lu _,ne,e2,fun _=>none,(Heap.Ns1.of_empty e3).at fun o q=>ao _ q,fun _=>True.intro,fun y hy=>absurd rfl hy⟩
theorem avU {prog:Program} {w:World} (hb:attributeBase e f env (eval e env)=eval e env)
    (h:wpAny (model prog w) A (eval e env) (fun o s₁=>wpAny (model prog w) A (getAttr o f true) Q E s₁) E s):wpAny (model prog w) A (eval (.Attribute e f pos) env) Q E s :=
  Attribute_any_ h (by rw [arm_eval_Attribute,hb])
end
noncomputable def aM8 (K:cu) (ta:TE) (f:Str):TE:=fun σ H Q=>ta σ H fun x H1=>∃ a C dx fs v,x = .ref a/\H1 a=some (.ins C dx fs)/\Cls K C/\oR K C f/\fs.lookup f=some v/\Q v H1
noncomputable def aM9 (K:cu) (ta tv:TE) (f:Str):TS:=fun D σ H=>tv σ H fun y H1=>ta σ H1 fun x H2=>∃ a C dx fs,x = .ref a/\H2 a=some (.ins C dx fs)/\Cls K C/\oR K C f/\fs.length < 1000 /\
  D.nx σ (upd H2 a (.ins C dx (yK f y fs)))
section
variable {X:Cx} {o e value:Expr} {f:Str} {pos pos' tpos:Pos} {ta tv:TE}
theorem aBV (he:PE X e ta) (hb:attributeBase e f X.env (eval e X.env)=eval e X.env):PE X (.Attribute e f pos) (aM8 X.K ta f):=by
  intro pins s σ H Q I h;refine avU hb (f9 (he pins s σ H _ I h) fun u s1 ⟨x,H1,I1,rx,a,C,dx,fs,v,ex,ea,c,n,l,q⟩=>?_);subst ex;obtain rfl:u=Value.ref a:=rx;exact ajU I1 ea c n l fun u' s2 I2 ru=>⟨v,H1,I2,ru,q⟩
theorem aBW (ha:PE X o ta) (hv:PE X value tv) (hs:swapsWith value (some (.Attribute o f pos')) pos.line X.env=pure false):PS X (.Assign [.Attribute o f pos'] value pos) (aM9 X.K ta tv f):=by
  intro pins s σ H D I h;refine plainObj_wpAny_Assign_Attribute (f9 (hv pins s σ H _ I h) fun u s1 ⟨y,H1,I1,ry,q⟩=>f9 (ha pins s1 σ H1 _ I1 q) fun ov s2 ⟨x,H2,I2,rx,a,C,dx,fs,ex,ea,c,n,l,q2⟩=>?_) hs;subst ex;obtain rfl:ov=Value.ref a:=rx;exact ajV I2 ea c n l ry fun s3 I3=>⟨σ,_,I3,q2⟩
end
section
variable {X:Cx} {pins:List (Addr×Obj)} {σ:St} {H:Hp} {s:Shared} {A:Around} {E:Value->Shared->Prop} {Q:Value->Shared->Prop} {c:Value} {b:Bool}
end
end
variable {mg:Str->Option Value}{base:Heap}{fd:FuncData}{ps:List Str}{outer:List Env}{qual:Str}{scope:Scope}
section
structure jH (qt:Bool) (k:Nat) (A:Around):Prop where
  hd:qt=false->A.handled=none
  dp:A.depth+3 * k+5 < recursionLimit
  un:A.units+16 * k+200 < cLine
theorem jH.mono {k:Nat} (r:jH qt k A) (h:j<=k):jH qt j A:=⟨r.hd,by have:=r.dp;omega,by have:=r.un;omega⟩
theorem jH.deeper {k:Nat} (r:jH qt (k+1) A) (env:Env):jH qt k (A.deeper env) :=
  ⟨r.hd,by have:=r.dp;show A.depth+1+3 * k+5 < _;omega,by have:=r.un;show A.units+3+16 * k+200 < _;omega⟩
theorem jH.in1 {k:Nat} (r:jH qt (k+1) A):jH qt k A.in1 :=
  ⟨r.hd,by have:=r.dp;show A.depth+3 * k+5 < _;omega,by have:=r.un;show A.units+1+16 * k+200 < _;omega⟩
theorem ajW:(A.under (.builtin "type.__call__" ⟨.ref C :: us,kw⟩)).depth=A.depth+1:=by
  first | rfl | simp [Around.under,Code.weight,Code.isCreation,Code.isGuard,Code.isCaller,Code.frames,Code.isFrame,guardIds]
theorem ajX:(A.under (.builtin "type.__call__" ⟨.ref C :: us,kw⟩)).units=A.units+1:=by
  first | rfl | simp [Around.under,Code.cUnits,Code.frames,Code.isFrame]
theorem jH.make {k:Nat} (r:jH qt (k+1) A) (C:Addr) (us:List Value) (kw:List (Str×Value)):jH qt k (A.under (.builtin "type.__call__" ⟨.ref C :: us,kw⟩)) :=
  ⟨r.hd,by have:=r.dp;rw [ajW];omega,by have:=r.un;rw [ajX];omega⟩
theorem jH.depth {k:Nat} (r:jH qt k A):A.depth < recursionLimit:=by have:=r.dp;omega
theorem jH.units {k:Nat} (r:jH qt k A):A.units+64 < cLine:=by have:=r.un;omega
noncomputable def aMA:TA:=fun _ H Q=>Q [] H
noncomputable def aHK (ta:TE) (tr:TA):TA:=fun σ H Q=>ta σ H fun x H1=>tr σ H1 fun xs H2=>Q (x :: xs) H2
section
variable {X:Cx} {e:Expr} {es:List Expr} {te:TE} {t:TA} {pos:Pos}
theorem aBX:PA X [] aMA:=fun _ _ _ _ H Q I h=>Calls.spliced_nil ⟨[],H,I,.nil,h⟩
theorem avV (ha:PE X e te) (hr:PA X es t) (hs:starEach (e :: es) X.env=(false,eval e X.env) :: starEach es X.env:=by rfl):PA X (e :: es) (aHK te t):=by
  intro pos pins s σ H Q I h;rw [hs];show wpAny _ _ (spliced ((false,eval e X.env) :: backTo pos (starEach es X.env))) _ _ s;refine Calls.spliced_cons (f9 (ha pins s σ H _ I h) fun u s1 ⟨x,H1,I1,r1,q1⟩=>?_);exact f9 (hr pos pins s1 σ H1 _ I1 q1) fun us s2 ⟨xs,H2,I2,r2,q2⟩=>⟨x :: xs,H2,I2,.cons r1 r2,q2⟩
noncomputable def aMB (t:TA):TE:=fun σ H Q=>t σ H fun xs H1=>xs.length<=sizeLine/\∀ p,H1 p=none->Q (.ref p) (upd H1 p (.tup xs))
noncomputable def aMC (t:TA):TE:=fun σ H Q=>t σ H fun xs H1=>xs.length<=sizeLine/\∀ p,H1 p=none->Q (.ref p) (upd H1 p (.lst xs))
theorem aBY {x1} (h:PA X es t):PE X (.Tuple es x1 pos) (aMB t):=by
  intro pins s σ H Q I hq;refine wpAny_Tuple_spliced (f9 (h pos pins s σ H _ I hq) fun us s1 ⟨xs,H1,I1,r,z,q⟩=>⟨by rw [← r.length];exact z,?_⟩);have hf:H1 s1.heap.objs.size=none:=I1.hok.fresh (au _);refine ⟨.ref s1.heap.objs.size,upd H1 s1.heap.objs.size (.tup xs),I1.laid (t':=s1.toks) (fun b u e=>ao _ e) (au _) ?_,rfl,q _ hf⟩;exact ⟨z,us,r,⟨_,cg _ rfl,rfl,_,rfl⟩⟩
theorem aBZ (h:PA X es t):PE X (.List es pos) (aMC t):=by
  intro pins s σ H Q I hq;refine wpAny_List_spliced (f9 (h pos pins s σ H _ I hq) fun us s1 ⟨xs,H1,I1,r,z,q⟩=>⟨by rw [← r.length];exact z,?_⟩);have hf:H1 s1.heap.objs.size=none:=I1.hok.fresh (au _);refine ⟨.ref s1.heap.objs.size,upd H1 s1.heap.objs.size (.lst xs),I1.laid (t':=s1.toks) (fun b u e=>ao _ e) (au _) ?_,rfl,q _ hf⟩;exact ⟨z,us,0,r,cg _ rfl⟩
end
noncomputable abbrev Sp:=List V->Hp->VK->XK->Prop
noncomputable abbrev CXT:=List Env->Hp->Shared->XK->Value->Shared->Prop
structure acE (P:Program) (w:World) (K:cu) (mg:Str->Option Value) (base:Heap) (A:Around) (outer:List Env) (s:Shared) (H:Hp):Prop where
  frames:A.frames=some outer
  mod:Mod K mg base
  bs:∀ b o,base.get? b=some o->s.heap.get? b=some o/\H b=none
  bsz:base.objs.size<=s.heap.objs.size
  vV:s.heap.FunFrames base outer
  frf:∀ b∈frs outer,H b=none
  hok:HOk P w H s.heap
  bare:AllBare s.gens
  hnd:Hnd A H
noncomputable def CE (outer:List Env) (P:Program) (w:World) (H:Hp) (s:Shared) (Q:VK) (u:Value) (s':Shared):Prop :=
  ∃ v H',s'.os=s.os/\AllBare s'.gens/\Un (frs outer) [] H H' s.heap s'.heap/\HOk P w H' s'.heap/\RelV v u/\Q v H'
noncomputable def CR (CX:CXT) (outer:List Env) (P:Program) (w:World) (H:Hp) (s:Shared) (Q:VK) (E:XK) (r:Result) (s':Shared):Prop :=
  match r with
  | .ok (.ret u)=>CE outer P w H s Q u s'
  | .ok _=>False
  | .error e=>CX outer H s E e s'
structure cM (qt:Bool) (P:Program) (w:World) (K:cu) (mg:Str->Option Value) (base:Heap) (CX:CXT) (k:Nat) (f:Addr) (fd:FuncData) (ps:List Str) (sp:Sp):Prop where
  len:∀ vs H Q E,sp vs H Q E->vs.length=ps.length
  run:∀ (A:Around) (outer:List Env) (s:Shared) (H:Hp) (args:Args) (us:List Value) (vs:List V) (Q:VK) (E:XK),jH qt k A->acE P w K mg base A outer s H->BindsTo s fd args (ps.zip us)->Vals vs us->sp vs H Q E ->
    codeAny (model P w) A (.call (.ref f) args) (CR CX outer P w H s Q E) s
theorem cM.mono {P:Program} {w:World} {K:cu} {mg:Str->Option Value} {base:Heap} {CX:CXT} {j k:Nat} {f:Addr} {fd:FuncData} {ps:List Str} {sp:Sp} (F:cM qt P w K mg base CX j f fd ps sp) (h:j<=k) :
    cM qt P w K mg base CX k f fd ps sp:=⟨F.len,fun A outer s H args us vs Q E hr=>F.run A outer s H args us vs Q E (hr.mono h)⟩
variable {CX:CXT}{f:Addr}{sp:Sp}
theorem cM.imp {w:World} {K:cu} {k:Nat} {sp':Sp} (F:cM qt P w K mg base CX k f fd ps sp)
    (h:∀ vs H Q E,sp' vs H Q E->sp vs H Q E):cM qt P w K mg base CX k f fd ps sp' :=
  ⟨fun vs H Q E q=>F.len vs H Q E (h _ _ _ _ q),fun A outer s H args us vs Q E hr he hb hv hs=>F.run A outer s H args us vs Q E hr he hb hv (h _ _ _ _ hs)⟩
theorem acE.make {w:World} {K:cu} (e:acE P w K mg base A outer s H) (C:Addr) (us:List Value) (kw:List (Str×Value)) :
    acE P w K mg base (A.under (.builtin "type.__call__" ⟨.ref C :: us,kw⟩)) outer s H:=⟨by first | exact e.frames | (simpa [Around.under,Code.envs,Code.isFrame,pushEnvs] using e.frames),e.mod,e.bs,e.bsz,e.vV,e.frf,e.hok,e.bare,e.hnd⟩
theorem acE.in1 {w:World} {K:cu} (e:acE P w K mg base A outer s H) :
    acE P w K mg base A.in1 outer s H:=⟨e.frames,e.mod,e.bs,e.bsz,e.vV,e.frf,e.hok,e.bare,e.hnd⟩
section
variable {X:Cx} {pins:List (Addr×Obj)} {σ:St} {H:Hp} {s s':Shared}
theorem Inv.env0 (I:Inv X pins σ H s):acE X.prog X.w X.K X.mg X.base X.A X.stack s H :=
  ⟨I.ok.frames,I.ok.mod,I.bs,jj I.ok.bsz I.sz,I.stack,I.aeH,I.hok,I.bare,I.hnd⟩
end
noncomputable def Binds (K:cu) (fd:FuncData) (ps:List Str) (ds:List Value):Prop :=
  ∀ (s:Shared) (us:List Value),K.In s.heap->(us++ds).length=ps.length->BindsTo s fd ⟨us,[]⟩ (ps.zip (us++ds))
theorem Binds.all {K:cu} (h:∀ us:List Value,us.length=ps.length->bindArgs fd ⟨us,[]⟩=pure (ps.zip us)):Binds K fd ps []:=fun s us _ hl=>by
  rw [uw] at hl ⊢;exact .of_eq (h us hl)
section
variable {X:Cx} {CX:CXT} {k:Nat} {f C:Addr} {fd:FuncData} {ps:List Str} {sp:Sp} {dvs:List V} {ds:List Value} {E:XK} {x m:Str} {p pos apos:Pos} {e o:Expr} {es:List Expr} {ta:TE} {t:TA}
structure Mk (K:cu) (C f:Addr):Prop where
  makes:PySem.W.makesIn K C=true
  init:iw K (.ref C) "__init__" = some (some (.ref f))
  fn:xg K (.ref f)=true
  kp:jy K (.ref C)=true
end
section
variable {X:Cx} {CX:CXT} {k:Nat} {f C:Addr} {fd:FuncData} {ps ks:List Str} {sp:Sp} {E:XK} {x m:Str} {p pos apos kpos:Pos} {e o:Expr} {es:List Expr} {kws:List Keyword} {te ta:TE} {t tk:TA} {nm:Option Str}
variable {g:List Value->List Value->List Value} {gV:List V->List V->List V}
end
structure bA (N P:List Str) (sc:Scope):Prop where
  kind:sc.kind = .function
  co:sc.isCoroutine=false
  gen:sc.isGenerator=false
  nd:N.Nodup
  pre:N.take P.length=P
  par:∀ x∈P,sc.names.lookup x=some .local∨sc.names.lookup x=some .cell
  aC0:∀ y∈sc.names,y.2 ≠ .free
theorem ad8 {kindOf:Str->Option NameKind} {x:Str}:∀ {binds:List (Str×Value)} {m:Str->Option Value},(∀ v,(x,v) ∉ binds)->bindL kindOf binds m x=m x
  | [],_,_=>rfl
  | (n,v) :: r,m,h=>by
    unfold bindL;rw [ad8 fun w hw=>h w (jr _ hw)];split
    . have:x≠n:=by rintro rfl;exact h v ur
      simp [this]
    . rfl
theorem ad9 {kindOf:Str->Option NameKind} {x:Str}:∀ {binds:List (Str×Value)} {m:Str->Option Value},(∀ v,(x,v) ∉ binds)->bindC kindOf binds m x=m x
  | [],_,_=>rfl
  | (n,v) :: r,m,h=>by
    unfold bindC;rw [ad9 fun w hw=>h w (jr _ hw)];split
    . rfl
    . have:x≠n:=by rintro rfl;exact h v ur
      simp [this]
theorem adA {kindOf:Str->Option NameKind} {x:Str} {v:Value}:∀ {P:List Str} {vs:List Value} {i:Nat} {m:Str->Option Value},P.Nodup->P[i]?=some x->vs[i]?=some v->kindOf x=some .local ->
    bindL kindOf (P.zip vs) m x=some v
  | [],_,_,_,_,h,_,_=>by simp at h
  | _ :: _,[],_,_,_,_,h,_=>by simp at h
  | p :: P,w :: vs,0,m,nd,h1,h2,hk=>by
    simp at h1 h2;subst h1;subst h2;show bindL kindOf ((p,w) :: P.zip vs) m p=_;unfold bindL;rw [ad8 fun v hv=>(jg.mp nd).1 (List.of_mem_zip hv).1,if_pos hk];simp
  | p :: P,w :: vs,i+1,m,nd,h1,h2,hk=>by
    show bindL kindOf ((p,w) :: P.zip vs) m x=_;unfold bindL;exact adA (i:=i) (jg.mp nd).2 (by simpa using h1) (by simpa using h2) hk
theorem adB {kindOf:Str->Option NameKind} {x:Str} {v:Value}:∀ {P:List Str} {vs:List Value} {i:Nat} {m:Str->Option Value},P.Nodup->P[i]?=some x->vs[i]?=some v->kindOf x≠some .local ->
    bindC kindOf (P.zip vs) m x=some v
  | [],_,_,_,_,h,_,_=>by simp at h
  | _ :: _,[],_,_,_,_,h,_=>by simp at h
  | p :: P,w :: vs,0,m,nd,h1,h2,hk=>by
    simp at h1 h2;subst h1;subst h2;show bindC kindOf ((p,w) :: P.zip vs) m p=_;unfold bindC;rw [ad9 fun v hv=>(jg.mp nd).1 (List.of_mem_zip hv).1,if_neg hk];simp
  | p :: P,w :: vs,i+1,m,nd,h1,h2,hk=>by
    show bindC kindOf ((p,w) :: P.zip vs) m x=_;unfold bindC;exact adB (i:=i) (jg.mp nd).2 (by simpa using h1) (by simpa using h2) hk
noncomputable def start (N:List Str) (vs:List V):St:=vs.map some++uh (N.length - vs.length) none
noncomputable def uZ (qt:Bool) (CX:CXT) (P:Program) (w:World) (K:cu) (mg:Str->Option Value) (base:Heap) (N:List Str) (qual:Str) (scope:Scope) (f:Addr) (cd:Value) (A:Around) (outer:List Env) (s:Shared) (H:Hp) (E:XK):Cx where
  prog:=P
  w:=w
  K:=K
  mg:=mg
  base:=base
  A:=A.deeper (envOfC qual scope s.heap.objs.size f cd)
  N:=N
  s₀:=s
  H₀:=H
  env:=envOfC qual scope s.heap.objs.size f cd
  outer:=outer
  stack:=envOfC qual scope s.heap.objs.size f cd :: outer
  ex:=[]
  calm:=!qt
  fn:=fun _=>true
  pn:=[]
  tp:=[]
  xe:=fun e s'=>wpAny (model P w) (A.deeper (envOfC qual scope s.heap.objs.size f cd)) (leaving (envOfC qual scope s.heap.objs.size f cd) e) (fun _ s''=>CX outer H s E e s'') (fun e' s''=>CX outer H s E e' s'') s'
theorem agJ {sc:Scope} (h:sc.names.lookup x=some .cell):∃ c,(cellsFrom n sc.names []).lookup x=some c:=by
  have q:=PySem.W.cellsFrom_some sc.names n [] (.inl h);exact xr.mp q
theorem anW {w:World} {K:cu} {cd:Value} {s1:Shared} {E:XK} {vs:List V}
    (S:bA N ps scope) (hd:qt=false->A.handled=none) (e0:acE P w K mg base A outer s H) (hl:vs.length=ps.length) (r:Vals vs us)
    (x:InCallC s s.heap.objs.size (bindL (envOfC qual scope s.heap.objs.size f cd).kindOf (ps.zip us) fun _=>none) (cellsFrom (s.heap.objs.size+1) scope.names []) (bindC (envOfC qual scope s.heap.objs.size f cd).kindOf (ps.zip us) fun _=>none) s1) :
    Inv (uZ qt CX P w K mg base N qual scope f cd A outer s H E) [] (start N vs) H s1:=by
  have hpl:ps.length<=N.length:=by have:=congrArg List.length S.pre;rw [yw] at this;omega
  obtain ⟨h1,tk,rfl,hk⟩:=x.done;have noA:∀ b:Addr,b ∉ (uZ qt CX P w K mg base N qual scope f cd A outer s H E).ex:=fun b z=>absurd (show b∈([]:List Addr) from z) (by simp)
  refine ⟨⟨e0.mod,S.kind,rfl,rfl,au _,fun y z c h1 h2=>?_,fun y hy=>?_,fun y c _ h=>?_,fun z=>hd (by cases qt with | false=>rfl | true=>cases z),Around.frames_deeper e0.frames,.inr ⟨rfl,rfl⟩,fun b z=>absurd z (noA b),e0.bs,e0.bsz,fun b _ _=>noA b,fun b z=>absurd z (noA b),e0.vV,e0.frf⟩,
    rfl,e0.bare,Un.kept hk,⟨_,x.toInCall.ns,fun i y v h1 h2 h3=>?_⟩,fun y c h=>⟨_,x.cell y c h⟩,e0.hok.fresh (au _),fun y c h=>?_,fun p hp=>absurd (show p∈([]:List (Addr×Obj)) from hp) (by simp),e0.hok.kept hk,?_,e0.hnd,fun p hp=>absurd (show p∈([]:List (Addr×List V)) from hp) (by simp)⟩
  . exact name_of_addr x.apart (PySem.mem_of_lookup h1) (PySem.mem_of_lookup h2)
  . have hy:scope.names.lookup y=some .cell∨scope.names.lookup y=some .free:=hy;rcases hy with hy | hy
    . exact agJ hy
    . exact absurd rfl (S.aC0 _ (PySem.mem_of_lookup hy))
  . exact qb (x.above y c (PySem.mem_of_lookup h))
  . have hi:i < vs.length:=by
      unfold start at h2;by_cases hi:i < vs.length
      . exact hi
      . rw [ql (by simpa using hi)] at h2;rw [List.getElem?_replicate] at h2;split at h2 <;> cases h2
    have ha:vs[i]?=some v:=by
      unfold start at h2;rw [ug (by simpa using hi),qg] at h2;cases e:vs[i]? with
      | none=>rw [e] at h2;cases h2
      | some a=>rw [e] at h2;cases h2;rfl
    obtain ⟨u,hu,rv⟩:=r.get ha
    have hp:ps[i]?=some y:=by
      rw [← S.pre,List.getElem?_take_of_lt (by omega)];exact h1
    have ndP:ps.Nodup:=by rw [← S.pre];exact S.nd.sublist (List.take_sublist _ _)
    refine ⟨u,rv,?_⟩;rcases S.par y (je hp) with k | k
    . exact .inl ⟨k,adA ndP hp hu k⟩
    . obtain ⟨c,e⟩:=agJ (n:=s.heap.objs.size+1) k;refine .inr ⟨.inl k,c,e,?_⟩;have q:=x.cell y c e;rw [adB ndP hp hu (by show scope.names.lookup y≠_;rw [k];decide)] at q;exact q
  . exact e0.hok.fresh (qb (x.above y c (PySem.mem_of_lookup h)))
  . unfold start;show _=N.length;rw [qd,dh,List.length_replicate];omega
theorem azU {w:World} {K:cu} {k:Nat} {name:Str} {params:Arguments} {dV kV doc pm cdv ct oc:Value} {an od:Option Addr}
    {osl:Array (Option Value)} (lk:K.lookup f=some ⟨oc,od,.func (qj name qual params body scope dV kV doc pm an cdv ct),osl⟩) (hcd:vm K cdv qual=true) (S:bA N ps scope)
    (len:∀ vs H Q E,sp vs H Q E->vs.length=ps.length)
    (hbody:∀ (A:Around) (outer:List Env) (s:Shared) (H:Hp) (vs:List V) (Q:VK) (E:XK),jH qt k (A.deeper (envOfC qual scope s.heap.objs.size f cdv))->sp vs H Q E ->
      ∃ t,PSs (uZ qt CX P w K mg base N qual scope f cdv A outer s H E) body t/\t { nx:=fun _ H'=>Q .non H',rt:=Q } (start N vs) H) :
    cM qt P w K mg base CX (k+1) f (qj name qual params body scope dV kV doc pm an cdv ct) ps sp:=by
  refine ⟨len,fun A outer s H args us vs Q E hr e0 hb r hsp=>?_⟩;have hl:=len _ _ _ _ hsp;have KX:K.In s.heap:=e0.mod.kin.keeps fun b o e=>(e0.bs b o e).1;have lim:s.heap.NoLimit:=e0.mod.nolimit.keeps fun b o e=>(e0.bs b o e).1
  have hkind:∀ y∈ps.zip us,scope.names.lookup y.1=some .local∨(scope.names.lookup y.1=some .cell/\((cellsFrom (s.heap.objs.size+1) scope.names []).lookup y.1).isSome=true):=fun ⟨n,v⟩ hy=>by
    rcases S.par n (List.of_mem_zip hy).1 with q | q
    . exact .inl q
    . exact .inr ⟨q,PySem.W.cellsFrom_some _ _ _ (.inl q)⟩
  refine codeAny_call_function hr.depth (KX _ _ lk) rfl S.co S.gen rfl (PySem.W.codeRec_of KX hcd) (hb _ _ _ _ ?_);refine wpAny_newFunctionEnv_cells S.kind hkind fun env he s1 x=>?_;subst he;refine ⟨lim.keeps x.toInCall.keep,codeAny_func ?_⟩;obtain ⟨t,ht,hq⟩:=hbody A outer s H vs Q E (hr.deeper _) hsp;have I:Inv (uZ qt CX P w K mg base N qual scope f cdv A outer s H E) [] (start N vs) H s1:=anW S hr.hd e0 hl r x;refine wpAny_mono (ht [] s1 (start N vs) H _ I hq) (fun fl s' hs=>?_) fun e s' hs=>hs
  have fin:∀ {σ':St} {H':Hp} {v:V} {u:Value},Inv (uZ qt CX P w K mg base N qual scope f cdv A outer s H E) [] σ' H' s'->RelV v u->Q v H'->CE outer P w H s Q u s' :=
    fun {σ' H' v u} J rv q=>⟨v,H',J.os,J.bare,J.base,J.hok,rv,q⟩
  cases fl with
  | ret u =>
    obtain ⟨v,σ',H',J,rv,q⟩:=hs;exact fin J rv q
  | next =>
    obtain ⟨σ',H',J,q⟩:=hs;exact fin (v:=V.non) (u:=Value.none) J rfl q
  | brk =>
    obtain ⟨_,_,_,q⟩:=hs;exact False.elim q
  | cont =>
    obtain ⟨_,_,_,q⟩:=hs;exact False.elim q
end
section
section
variable {X:Cx} {x:Str} {p pos:Pos} {e:Expr} {es:List Expr} {t:TA} {id T:String} {r:List V->Hp->VK->Prop}
end
end
variable {kvs:List (List Key×V)}{xs:List (List Key×Addr×Value)}{h':Heap}
section
variable {o:Option V}
section
variable {κ:Type} [DecidableEq κ]
noncomputable def a05 (kvs:List (κ×V)) (k:κ):Option V:=(kvs.find? fun kv=>decide (kv.1=k)).map (·.2)
noncomputable def putK (kvs:List (κ×V)) (k:κ) (v:V):List (κ×V) :=
  if (kvs.any fun kv=>decide (kv.1=k))=true then kvs.map (fun kv=>if kv.1=k then (kv.1,v) else kv) else kvs++[(k,v)]
noncomputable def zN (kvs:List (κ×V)) (k:κ):List (κ×V):=kvs.filter fun kv=>decide (kv.1≠k)
theorem a06 {p:κ×V} {r:List (κ×V)} {k:κ} (e:p.1=k):a05 (p :: r) k=some p.2:=by simp [a05,su,e]
theorem a07 {p:κ×V} {r:List (κ×V)} {k:κ} (e:¬ p.1=k):a05 (p :: r) k=a05 r k:=by simp [a05,su,e]
theorem a9Y (k:κ):∀ kvs:List (κ×V),(kvs.any fun kv=>decide (kv.1=k))=(a05 kvs k).isSome
  | []=>rfl
  | p :: r=>by
    rw [qz];by_cases e:p.1=k
    . simp only [a06 e,decide_eq_true e,Bool.true_or,Option.isSome_some]
    . rw [a07 e,decide_eq_false e,Bool.false_or];exact a9Y k r
theorem a08 (kvs:List (κ×V)) (k:κ) (v:V):(putK kvs k v).length<=kvs.length+1:=by
  unfold putK;split
  . rw [dh];omega
  . rw [qd,ju,List.length_nil];omega
theorem yI.sX {u:Option Value} (r:yI o u):o.isSome=u.isSome:=by
  cases o with
  | none=>cases u with
    | none=>rfl
    | some _=>exact (show False from r).elim
  | some _=>cases u with
    | none=>exact (show False from r).elim
    | some _=>rfl
theorem yI.getD {u:Option Value} {d:V} {d':Value} (r:yI o u) (rd:RelV d d'):RelV (o.getD d) (u.getD d'):=by
  cases o with
  | none=>cases u with
    | none=>exact rd
    | some _=>exact (show False from r).elim
  | some _=>cases u with
    | none=>exact (show False from r).elim
    | some _=>exact r
theorem KV.val {kvs:List (κ×V)} {vs:List (κ×Value)} (r:KV kvs vs) (k:κ):yI (a05 kvs k) (valueAt vs k):=by
  unfold KV at r
  induction r with
  | nil=>exact True.intro
  | @cons p q ps qs h t ih =>
    obtain ⟨h1,h2⟩:=h;by_cases e:p.1=k
    . have e':q.1=k:=h1.symm.trans e;have b:valueAt (q :: qs) k=some q.2:=by simp [valueAt,su,e']
      rw [a06 e,b];exact h2
    . have e':¬ q.1=k:=fun z=>e (h1.trans z);have b:valueAt (q :: qs) k=valueAt qs k:=by simp [valueAt,su,e']
      rw [a07 e,b];exact ih
theorem KV.any {kvs:List (κ×V)} {vs:List (κ×Value)} (r:KV kvs vs) (k:κ):(kvs.any fun kv=>decide (kv.1=k))=vs.any fun kv=>decide (kv.1=k):=by
  unfold KV at r
  induction r with
  | nil=>rfl
  | cons h t ih=>rw [qz,qz,ih,h.1]
theorem KV.repl {kvs:List (κ×V)} {vs:List (κ×Value)} (r:KV kvs vs) (k:κ) (ry:RelV y u) :
    KV (kvs.map fun kv=>if kv.1=k then (kv.1,y) else kv) (vs.map fun kv=>if kv.1=k then (kv.1,u) else kv):=by
  unfold KV at r ⊢
  induction r with
  | nil=>exact .nil
  | @cons p q ps qs h t ih =>
    rw [dj,dj];refine .cons ?_ ih;obtain ⟨h1,h2⟩:=h;by_cases e:p.1=k
    . rw [if_pos e,if_pos (h1.symm.trans e)];exact ⟨h1,ry⟩
    . rw [if_neg e,if_neg (fun z=>e (h1.trans z))];exact ⟨h1,h2⟩
theorem KV.put {kvs:List (κ×V)} {vs:List (κ×Value)} (r:KV kvs vs) (k:κ) (ry:RelV y u):KV (putK kvs k y) (stored vs k u):=by
  unfold putK stored;rw [r.any k];by_cases e:(vs.any fun kv=>decide (kv.1=k))=true
  . rw [if_pos e,if_pos e];exact r.repl k ry
  . rw [if_neg e,if_neg e];exact Paired.snoc r ⟨rfl,ry⟩
theorem KV.drop {kvs:List (κ×V)} {vs:List (κ×Value)} (r:KV kvs vs) (k:κ):KV (zN kvs k) (without vs k):=by
  unfold KV at r ⊢;unfold zN without
  induction r with
  | nil=>exact .nil
  | @cons p q ps qs h t ih =>
    obtain ⟨h1,h2⟩:=h;rw [mz,mz];by_cases e:p.1=k
    . have a:¬ decide (p.1≠k)=true:=by simp [e]
      have b:¬ decide (q.1≠k)=true:=by simp [h1.symm.trans e]
      rw [if_neg a,if_neg b];exact ih
    . have e':¬ q.1=k:=fun z=>e (h1.trans z);have a:decide (p.1≠k)=true:=by simp [e]
      have b:decide (q.1≠k)=true:=by simp [e']
      rw [if_pos a,if_pos b];exact .cons ⟨h1,h2⟩ ih
theorem KV.keys {kvs:List (κ×V)} {vs:List (κ×Value)} (r:KV kvs vs):kvs.map (·.1)=vs.map (·.1):=by
  unfold KV at r
  induction r with
  | nil=>rfl
  | cons h t ih=>rw [dj,dj,ih,h.1]
theorem KV.length {kvs:List (κ×V)} {vs:List (κ×Value)} (r:KV kvs vs):kvs.length=vs.length:=Paired.length r
theorem a9Z (kvs:List (κ×V)) (k:κ):(zN kvs k).length<=kvs.length:=vo _ _
end
theorem a5D {w:World} {k:Key} (r:RelV (kV k) u):(aP P w).is k u=true:=by
  cases k with
  | inl i=>obtain ⟨t,e⟩:=(show ∃ t,u=Value.int i t from r);subst e;exact agH P w i t
  | inr x=>obtain ⟨t,e⟩:=(show ∃ t,u=Value.str x t from r);subst e;exact agI P w x t
theorem adC {P:Program} {w:World}:∀ {ks:List Key} {us:List Value},Vals (ks.map kV) us->ItemsAre (aP P w) ks us
  | [],_,r=>by rw [List.map_nil] at r;cases r;exact .nil
  | k :: ks,_,r=>by
    rw [dj] at r;cases r with
    | cons h t=>exact .cons (a5D h) (adC t)
noncomputable abbrev KT (H:Hp):List (List Key×V)->List (List Key×Addr×Value)->Prop:=Paired fun p q=>p.1=q.1/\H q.2.1=some (.tup (p.1.map kV))/\RelV p.2 q.2.2
theorem KT.val (r:KT H kvs xs) (k:List Key):yI (a05 kvs k) ((atKey xs k).map (·.2)):=by
  induction r with
  | nil=>exact True.intro
  | @cons p q ps qs h t ih =>
    obtain ⟨h1,_,h2⟩:=h;by_cases e:p.1=k
    . have e':q.1=k:=h1.symm.trans e;have b:atKey (q :: qs) k=some q.2:=by simp [atKey,su,e']
      rw [a06 e,b];exact h2
    . have e':¬ q.1=k:=fun z=>e (h1.trans z);have b:atKey (q :: qs) k=atKey qs k:=by simp [atKey,su,e']
      rw [a07 e,b];exact ih
theorem KT.repl (r:KT H kvs xs) (k:List Key) (ry:RelV y u) :
    KT H (kvs.map fun kv=>if kv.1=k then (kv.1,y) else kv) (xs.map (putAt k u)):=by
  induction r with
  | nil=>exact .nil
  | @cons p q ps qs h t ih =>
    rw [dj,dj];refine .cons ?_ ih;obtain ⟨h1,h2,h3⟩:=h;unfold putAt;by_cases e:p.1=k
    . rw [if_pos e,if_pos (h1.symm.trans e)];exact ⟨h1,h2,ry⟩
    . rw [if_neg e,if_neg (fun z=>e (h1.trans z))];exact ⟨h1,h2,h3⟩
theorem KT.put (r:KT H kvs xs) (k:List Key) (hb:H b=some (.tup (k.map kV))) (ry:RelV y u) :
    KT H (putK kvs k y) (storedH xs k b u):=by
  have e:(kvs.any fun kv=>decide (kv.1=k))=(atKey xs k).isSome:=by
    rw [a9Y,(r.val k).sX,yh]
  unfold putK storedH;rw [e];by_cases q:(atKey xs k).isSome=true
  . rw [if_pos q,if_pos q];exact r.repl k ry
  . rw [if_neg q,if_neg q];exact Paired.snoc r ⟨rfl,hb,ry⟩
theorem KT.keeps (r:KT H kvs xs) (ht:∀ b ys,H b=some (.tup ys)->H' b=some (.tup ys)):KT H' kvs xs :=
  Paired.aB5 r fun _ _ z=>⟨z.1,ht _ _ z.2.1,z.2.2⟩
section
variable {P:Program} {w:World} {H:Hp} {h:Heap} {a:Addr}
theorem azV {u:HO} (ok:HOk P w H h) (e:Rd H a u):gQ P w H h a u:=e.ok ok
theorem zO {kvs:List (Key×V)} (ok:HOk P w H h) (e:Rd H a (.dK kvs)):kvs.length<=sizeLine/\(a == sysModules)=false/\∃ vs,KV kvs vs/\h.DictOf (aP P w) a vs :=
  show gQ P w H h a (.dK kvs) from azV ok e
theorem aa0 {kvs:List (Key×V)} (ok:HOk P w H h) (e:H a=some (.dK kvs)):kvs.length<=sizeLine/\(a == sysModules)=false/\∃ vs,KV kvs vs/\h.DictOf (aP P w) a vs:=zO ok (.inl e)
theorem a09 {ks:List Key} (ok:HOk P w H h) (e:H a=some (.tup (ks.map kV))):(tupleKind (aP P w)).is h ks a:=by
  obtain ⟨_,its,r,o,h1,h2,n,h3⟩:=(show gQ P w H h a (.tup (ks.map kV)) from ok a _ e);exact ⟨o,its.toArray,n,h1,h2,h3,by simpa using adC r⟩
theorem a5E (ok:HOk P w H h) (e:Rd H a (.dT kvs)):kvs.length<=sizeLine/\(a == sysModules)=false /\
    ∃ xs,KT H kvs xs/\h.DictOfH (tupleKind (aP P w)) a xs:=by
  obtain ⟨z,y,xs,r,o,es,ep,h1,h2,h3,h4,h5⟩:=(show gQ P w H h a (.dT kvs) from azV ok e);refine ⟨z,y,xs,r,o,es,ep,h1,h2,h3,h4,fun x hx=>?_,h5⟩
  have all:∀ {l:List (List Key×V)} {m:List (List Key×Addr×Value)},KT H l m->∀ x∈m,(tupleKind (aP P w)).is h x.1 x.2.1:=by
    intro l m q
    induction q with
    | nil=>intro x hx;exact nomatch hx
    | @cons p q ps qs hq t ih =>
      intro x hx;rcases ig.mp hx with e | hx
      . subst e;exact a09 ok (by rw [← hq.1];exact hq.2.1)
      . exact ih x hx
  exact all r x hx
theorem agK (ok:HOk P w H h) (e:H a=some (.dT kvs)):kvs.length<=sizeLine/\(a == sysModules)=false /\
    ∃ xs,KT H kvs xs/\h.DictOfH (tupleKind (aP P w)) a xs:=a5E ok (.inl e)
end
noncomputable def a3Q (H:Hp) (a:Addr) (y:V) (r:Option V):Prop :=
  (∃ kvs k,Rd H a (.dK kvs)/\y=kV k/\r=a05 kvs k)∨∃ kvs k b,Rd H a (.dT kvs)/\y = .ref b/\H b=some (.tup (k.map kV))/\r=a05 kvs k
noncomputable def ajY (H:Hp) (a:Addr) (y v:V) (H':Hp):Prop :=
  (∃ kvs k,H a=some (.dK kvs)/\y=kV k/\kvs.length < sizeLine/\H'=upd H a (.dK (putK kvs k v))) ∨
  ∃ kvs k b,H a=some (.dT kvs)/\y = .ref b/\H b=some (.tup (k.map kV))/\kvs.length < sizeLine/\H'=upd H a (.dT (putK kvs k v))
theorem a3Q.k {H:Hp} {a:Addr} {kvs:List (Key×V)} {k:Key} (e:H a=some (.dK kvs)):a3Q H a (kV k) (a05 kvs k) := .inl ⟨kvs,k,.inl e,rfl,rfl⟩
theorem a3Q.t {k:List Key} (e:H a=some (.dT kvs)) (eb:H b=some (.tup (k.map kV))):a3Q H a (.ref b) (a05 kvs k) := .inr ⟨kvs,k,b,.inl e,rfl,eb,rfl⟩
theorem ajY.k {H:Hp} {a:Addr} {kvs:List (Key×V)} {k:Key} {v:V} (e:H a=some (.dK kvs)) (hl:kvs.length < sizeLine):ajY H a (kV k) v (upd H a (.dK (putK kvs k v))) := .inl ⟨kvs,k,e,rfl,hl,rfl⟩
theorem ajY.t {k:List Key} (e:H a=some (.dT kvs)) (eb:H b=some (.tup (k.map kV))) (hl:kvs.length < sizeLine) :
    ajY H a (.ref b) v (upd H a (.dT (putK kvs k v))) := .inr ⟨kvs,k,b,e,rfl,eb,hl,rfl⟩
section
variable {X:Cx} {pins:List (Addr×Obj)} {σ:St} {H:Hp} {s:Shared} {a:Addr} {y v:V} {u r:Value} {o:Option V} {A:Around} {E:Value->Shared->Prop}
theorem Inv.big (I:Inv X pins σ H s):sysModules < s.heap.objs.size:=by
  have h:mainGlobals < s.heap.objs.size:=(I.mod.glob.keeps I.bk).lt;exact Nat.lt_trans (by decide) h
theorem anY (hu:A.units+1 < cLine) (I:Inv X pins σ H s) (g:a3Q H a y (some v)) (ry:RelV y u) (h:∀ w' s',Inv X pins σ H s'->RelV v w'->Q w' s') :
    wpAny (model X.prog X.w) A (getItem (.ref a) u) Q E s:=by
  rcases g with ⟨kvs,k,e,ey,l⟩ | ⟨kvs,k,b,e,ey,eb,l⟩
  . subst ey;obtain ⟨z,hd,vs,rel,dd⟩:=zO I.hok e;obtain ⟨w',hw,rw'⟩:=yI.some_of (v:=v) (o:=valueAt vs k) (by rw [l];exact rel.val k);exact wpAny_getItem_of (a5D ry) dd.mapOf hw (h w' _ (I.tok _) rw')
  . subst ey;cases (show u=Value.ref b from ry);obtain ⟨z,hd,xs,rel,dd⟩:=a5E I.hok e;obtain ⟨w',hw,rw'⟩:=yI.some_of (v:=v) (o:=(atKey xs k).map (·.2)) (by rw [l];exact rel.val k);obtain ⟨p,hp,hp2⟩:=Option.map_eq_some_iff.mp hw;refine wpAny_getItem_heap (tupleKind_room_in1 hu) (a09 I.hok eb) dd hp ?_;rw [hp2];exact h w' _ (I.tok _) rw'
theorem aMD (hu:A.units+1 < cLine) (I:Inv X pins σ H s) (g:a3Q H a y o) (ry:RelV y u) (h:∀ s',Inv X pins σ H s'->Q (.bool o.isSome) s') :
    wpAny (model X.prog X.w) A (compareOp .In u (.ref a)) Q E s:=by
  rcases g with ⟨kvs,k,e,ey,l⟩ | ⟨kvs,k,b,e,ey,eb,l⟩
  . subst ey;obtain ⟨z,hd,vs,rel,dd⟩:=zO I.hok e;refine wpAny_in_of (a5D ry) hd dd.mapOf ?_;rw [← (rel.val k).sX,← l];exact h _ (I.tok _)
  . subst ey;cases (show u=Value.ref b from ry);obtain ⟨z,hd,xs,rel,dd⟩:=a5E I.hok e;refine wpAny_in_heap (tupleKind_room_in1 hu) (a09 I.hok eb) hd dd ?_;have q:=(rel.val k).sX;rw [yh] at q;rw [← q,← l];exact h _ (I.tok _)
theorem avW (hu:A.units+1 < cLine) (I:Inv X pins σ H s) (g:a3Q H a y o) (ry:RelV y u) (h:∀ s',Inv X pins σ H s'->Q (.bool (!o.isSome)) s') :
    wpAny (model X.prog X.w) A (compareOp .NotIn u (.ref a)) Q E s:=by
  rcases g with ⟨kvs,k,e,ey,l⟩ | ⟨kvs,k,b,e,ey,eb,l⟩
  . subst ey;obtain ⟨z,hd,vs,rel,dd⟩:=zO I.hok e;refine wpAny_notIn_of (a5D ry) hd dd.mapOf ?_;rw [← (rel.val k).sX,← l];exact h _ (I.tok _)
  . subst ey;cases (show u=Value.ref b from ry);obtain ⟨z,hd,xs,rel,dd⟩:=a5E I.hok e;refine wpAny_notIn_heap (tupleKind_room_in1 hu) (a09 I.hok eb) hd dd ?_;have q:=(rel.val k).sX;rw [yh] at q;rw [← q,← l];exact h _ (I.tok _)
theorem a1Z {ob:HO} (I:Inv X pins σ H s) (mu:Mut (H a)) (hs:iz a s.heap h') (he:∃ q,h'.get? a=some q) (new:gQ X.prog X.w (upd H a ob) h' a ob) :
    Inv X pins σ (upd H a ob) { s with heap:=h',toks:=t' } :=
  I.write (x:=a) (e:=a) mu (.inl rfl) (fun b q hb z=>(hs.2 b hb).trans z) he new
theorem ajZ {w:World} {kvs:List (Key×V)} {vs:List (Key×Value)} (z:kvs.length<=sizeLine) (hd:(a == sysModules)=false) (rel:KV kvs vs) (dd:h'.DictOf (aP P w) a vs) :
    gQ P w H' h' a (.dK kvs):=⟨z,hd,vs,rel,dd⟩
theorem anZ {Q:Unit->Shared->Prop} (hu:A.units+1 < cLine) (I:Inv X pins σ H s) (g:ajY H a y v H') (ry:RelV y u) (rv:RelV v r) (h:∀ s',Inv X pins σ H' s'->Q () s') :
    wpAny (model X.prog X.w) A (setItem (.ref a) u r) Q E s:=by
  rcases g with ⟨kvs,k,e,ey,l,eH⟩ | ⟨kvs,k,b,e,ey,eb,l,eH⟩
  . subst ey eH;obtain ⟨z,hd,vs,rel,dd⟩:=aa0 I.hok e;have hz:vs.length<=sizeLine:=by rw [← rel.length];exact z
    have hl:(putK kvs k v).length<=sizeLine:=by have:=a08 kvs k v;omega
    refine wpAny_setItem_pairs (hsz:=hz) (a5D ry) dd fun h' dd' hs=>h _ ?_;have he:∃ q,h'.get? a=some q:=let ⟨q,_,_,hq,_⟩:=dd';⟨q,hq⟩
    exact a1Z I (by rw [e];exact True.intro) hs he (ajZ hl hd (rel.put k rv) dd')
  . subst ey eH;cases (show u=Value.ref b from ry);obtain ⟨z,hd,xs,rel,dd⟩:=agK I.hok e;have hz:xs.length<=sizeLine:=by rw [← Paired.length rel];exact z
    have hl:(putK kvs k v).length<=sizeLine:=by have:=a08 kvs k v;omega
    refine wpAny_setItem_heap (hsz:=hz) (tupleKind_room_in1 hu) (a09 I.hok eb) dd fun h' dd' hs=>h _ ?_;obtain ⟨q,es,ep,hq,h2,h3,h4,_,h5⟩:=dd';refine a1Z I (by rw [e];exact True.intro) hs ⟨q,hq⟩ ⟨hl,hd,_,(rel.put k eb rv).keeps fun c ys ec=>?_,q,es,ep,hq,h2,h3,h4,h5⟩;rw [aX (apQ ec e (fun z=>nomatch z))];exact ec
end
section
variable {X:Cx} {pins:List (Addr×Obj)} {σ:St} {H:Hp} {s:Shared} {a:Addr} {kvs:List (Key×V)} {k:Key} {u:Value} {A:Around} {E:Value->Shared->Prop}
theorem aGA {Q:Unit->Shared->Prop} (I:Inv X pins σ H s) (e:H a=some (.dK kvs)) (ry:RelV (kV k) u) (l:(a05 kvs k).isSome=true) (h:∀ s',Inv X pins σ (upd H a (.dK (zN kvs k))) s'->Q () s') :
    wpAny (model X.prog X.w) A (delItem (.ref a) u) Q E s:=by
  obtain ⟨z,hd,vs,rel,dd⟩:=aa0 I.hok e
  refine wpAny_delItem_slot dd.typeIs (by decide) PySem.F.slot_dict_delitem
    (call_meetsIn PySem.F.slot_dict_delitem dd.typeIs PySem.F.entry_dict_delitem (PySem.F.args_dict_delitem_2 _ _) (meets_dict_delitem_pairs (aP X.prog X.w) a (a5D ry)) ⟨vs,dd,by rw [← rel.length];exact z,by rw [← (rel.val k).sX];exact l,fun h' dd' hs=>h _ ?_⟩)
  have he:∃ q,h'.get? a=some q:=let ⟨q,_,_,hq,_⟩:=dd';⟨q,hq⟩
  exact a1Z I (by rw [e];exact True.intro) hs he (ajZ (jj (a9Z kvs k) z) hd (rel.drop k) dd')
theorem aHM {more:List Value} (I:Inv X pins σ H s) (e:H a=some (.dK kvs)) (ry:RelV (kV k) u) (l:a05 kvs k=some v) (hm:more=[]∨∃ x,more=[x])
    (h:∀ w' s',Inv X pins σ (upd H a (.dK (zN kvs k))) s'->RelV v w'->Q w' s'):wpAny (model X.prog X.w) A (call (.builtin "dict.pop") (.ref a :: u :: more)) Q E s:=by
  obtain ⟨z,hd,vs,rel,dd⟩:=aa0 I.hok e;obtain ⟨w',hw,rw'⟩:=yI.some_of (v:=v) (o:=valueAt vs k) (by rw [← l];exact rel.val k)
  have hp:(keyPart u).isSome=true:=by
    cases k with
    | inl i=>obtain ⟨t,q⟩:=(show ∃ t,u=Value.int i t from ry);subst q;rfl
    | inr x=>obtain ⟨t,q⟩:=(show ∃ t,u=Value.str x t from ry);subst q;rfl
  have ha:argsOk "dict.pop" ⟨.ref a :: u :: more,[]⟩:=by
    rcases hm with q | ⟨x,q⟩
    . subst q;exact PySem.F.args_dict_pop_2 _ _
    . subst q;exact PySem.F.args_dict_pop_3 _ _ _
  refine call_meetsIn PySem.F.slot_dict_pop dd.typeIs PySem.F.entry_dict_pop ha (meets_dict_pop_there (aP X.prog X.w) a (a5D ry) more hm hp)
    ⟨vs,w',dd,by rw [← rel.length];exact z,hw,fun h' dd' hs=>h w' _ ?_ rw'⟩
  have he:∃ q,h'.get? a=some q:=let ⟨q,_,_,hq,_⟩:=dd';⟨q,hq⟩
  exact a1Z I (by rw [e];exact True.intro) hs he (ajZ (jj (a9Z kvs k) z) hd (rel.drop k) dd')
theorem aHN (I:Inv X pins σ H s) (e:Rd H a (.dK kvs)) (h:∀ t s',Inv X pins σ H s'->Q (.int kvs.length t) s'):wpAny (model X.prog X.w) A (call (.builtin "len") [.ref a]) Q E s:=by
  obtain ⟨z,hd,vs,rel,dd⟩:=zO I.hok e;refine call_len_dict hd dd (by rw [← rel.length];rw [sizeLine_eq] at z;omega) ?_;rw [← rel.length];exact h _ _ (I.tok _)
end
noncomputable def aC1 (i:Expr):Prop:=∀ ov iv,subscripted i false ov iv=operate [ov,iv] (getItem ov iv)
theorem avX {prog:Program} {w:World} {value slice:Expr} {T id:String}
    (hl:typeLookup (.type T) "__getitem__" = pure (some (.builtin id))) (hs:aC1 slice)
    (h:wpAny (model prog w) A (eval value env) (fun o s₁=>wpAny (model prog w) A (eval slice env) (fun i s₂=>s₂.TypeIs o T/\wpAny (model prog w) A (getItem o i) Q E s₂) E s₁) E s) :
    wpAny (model prog w) A (eval (.Subscript value slice pos) env) Q E s:=by
  refine Subscript_ (wpAny_mono h (fun o s₁ h₁=>wpAny_mono h₁ (fun i s₂ h₂=>?_) fun _ _ x=>x) fun _ _ x=>x);obtain ⟨hT,h₂⟩:=h₂;unfold subscriptTail;refine aj ?_;rw [getitemInPython_of_ne hT.not_modules];refine aj (wpAny_specialOf hT hl ?_)
  have fin:wpAny (model prog w) A (subscripted slice false o i) (fun r s₃=>wpAny (model prog w) A (letTemporaryGo value o r >>= fun _=>pure r) Q E s₃) E s₂:=by
    rw [hs o i];exact wpAny_operating (wpAny_mono h₂ (fun r s₃ h₃=>aj (wpAny_letTemporaryGo (aq h₃))) fun _ _ x=>x)
  first
    | exact aq (aj fin)
    | exact aj (aq (aj fin))
    | exact aj fin
theorem agM {σ:St} (I:Inv X pins σ H s) (g:a3Q H a y o):s.TypeIs (.ref a) "dict" := by
  rcases g with ⟨kvs,k,e,_,_⟩ | ⟨kvs,k,b,e,_,_,_⟩
  . obtain ⟨_,_,vs,_,dd⟩:=zO I.hok e;exact dd.typeIs
  . obtain ⟨_,_,xs,_,dd⟩:=a5E I.hok e;exact dd.typeIs
noncomputable def aHO (td ty:TE):TE:=fun σ H Q=>td σ H fun x H1=>ty σ H1 fun y H2=>∃ a v,x = .ref a/\a3Q H2 a y (some v)/\Q v H2
noncomputable def aHP (td ty tv:TE):TS:=fun D σ H=>tv σ H fun v H1=>td σ H1 fun x H2=>ty σ H2 fun y H3=>∃ a H4,x = .ref a/\ajY H3 a y v H4/\D.nx σ H4
section
variable {X:Cx} {o i e value:Expr} {pos pos' tpos:Pos} {td ty tv:TE}
theorem avY (hu:X.A.units+1 < cLine) (ho:PE X o td) (hi:PE X i ty) (hs:aC1 i):PE X (.Subscript o i pos) (aHO td ty):=by
  intro pins s σ H Q I h;refine avX PySem.F.slot_dict_getitem.lookup hs (f9 (ho pins s σ H _ I h) fun u s1 ⟨x,H1,I1,rx,q1⟩=>f9 (hi pins s1 σ H1 _ I1 q1) fun iv s2 ⟨y,H2,I2,ry,a,v,ex,g,q2⟩=>?_);subst ex;obtain rfl:u=Value.ref a:=rx;exact ⟨agM I2 g,anY hu I2 g ry fun w' s3 I3 rw'=>⟨v,H2,I3,rw',q2⟩⟩
theorem avZ (hu:X.A.units+1 < cLine) (ho:PE X o td) (hi:PE X i ty) (hv:PE X value tv) (hs:swapsWith value (some (.Subscript o i pos')) pos.line X.env=pure false) :
    PS X (.Assign [.Subscript o i pos'] value pos) (aHP td ty tv):=by
  intro pins s σ H D I h;refine wpAny_Assign_Subscript (f9 (hv pins s σ H _ I h) fun r s1 ⟨v,H1,I1,rv,q1⟩=>f9 (ho pins s1 σ H1 _ I1 q1) fun u s2 ⟨x,H2,I2,rx,q2⟩=>f9 (hi pins s2 σ H2 _ I2 q2) fun iv s3 ⟨y,H3,I3,ry,a,H4,ex,g,q3⟩=>?_) hs;subst ex;obtain rfl:u=Value.ref a:=rx;exact anZ hu I3 g ry rv fun s4 I4=>⟨σ,H4,I4,q3⟩
end
theorem aq5 {w:World} (h:Heap) (hb:sysModules < h.objs.size):gQ P w H (h.push { cls := .type "dict",data := .dict #[] }) h.objs.size (.dK []) :=
  ⟨lu _,beq_eq_false_iff_ne.mpr (Ne.symm (dw hb)),[],.nil,Heap.DictOf.new h⟩
theorem aq6 {w:World} (h:Heap) (hb:sysModules < h.objs.size):gQ P w H (h.push { cls := .type "dict",data := .dict #[] }) h.objs.size (.dT []) :=
  ⟨lu _,beq_eq_false_iff_ne.mpr (Ne.symm (dw hb)),[],.nil,_,#[],0,cg _ rfl,⟨rfl,rfl,rfl⟩,rfl,rfl,yc⟩
noncomputable def aC2:TE:=fun _ H Q=>∀ p,H p=none->Q (.ref p) (upd H p (.dK []))
noncomputable def aC3:TE:=fun _ H Q=>∀ p,H p=none->Q (.ref p) (upd H p (.dT []))
section
variable {X:Cx} {pos:Pos}
theorem aq7:PE X (.Dict [] [] pos) aC2:=fun pins s σ H Q I h =>
  wpAny_Dict_empty ⟨.ref s.heap.objs.size,_,I.laid (a:=s.heap.objs.size) (o := .dK []) (t':=s.toks) (fun _ _ q=>ao _ q) (au _) (aq5 s.heap I.big),rfl,h _ (I.hok.fresh (au _))⟩
theorem aq8:PE X (.Dict [] [] pos) aC3:=fun pins s σ H Q I h =>
  wpAny_Dict_empty ⟨.ref s.heap.objs.size,_,I.laid (a:=s.heap.objs.size) (o := .dT []) (t':=s.toks) (fun _ _ q=>ao _ q) (au _) (aq6 s.heap I.big),rfl,h _ (I.hok.fresh (au _))⟩
end
structure M1 (X:Cx) (o:Expr) (m:Str) (apos:Pos) (e:Expr) (cpos:Pos):Prop where
  base:attributeBase o m X.env (eval o X.env)=eval o X.env
  few:((backTo cpos (starEach [e] X.env)).all (fun x=>!x.1)&&(backToKw cpos (keywordEach [] X.env)).all (fun x=>x.1.isSome)
    && decide (([e]:List Expr).length+([]:List Keyword).length+(if ([]:List Keyword).isEmpty then 0 else 1) < 30))=true
  line:(apos.endLine == cpos.line)=true
  trees:backTo cpos (starEach [e] X.env)=[(false,eval e X.env)]
structure M2 (X:Cx) (o:Expr) (m:Str) (apos:Pos) (e f:Expr) (cpos:Pos):Prop where
  base:attributeBase o m X.env (eval o X.env)=eval o X.env
  few:((backTo cpos (starEach [e,f] X.env)).all (fun x=>!x.1)&&(backToKw cpos (keywordEach [] X.env)).all (fun x=>x.1.isSome)
    && decide (([e,f]:List Expr).length+([]:List Keyword).length+(if ([]:List Keyword).isEmpty then 0 else 1) < 30))=true
  line:(apos.endLine == cpos.line)=true
  trees:backTo cpos (starEach [e,f] X.env)=[(false,eval e X.env),(false,eval f X.env)]
noncomputable def IsD (H:Hp) (a:Addr):Prop:=(∃ kvs,Rd H a (.dK kvs))∨∃ kvs,Rd H a (.dT kvs)
theorem a6W {σ:St} (I:Inv X pins σ H s) (d:IsD H a) :
    s.TypeIs (.ref a) "dict" /\ (∀ b,Value.ref a = .ref b->∃ ob,s.heap.get? b=some ob/\ob.dict=none)/\(a == sysModules)=false:=by
  rcases d with ⟨kvs,e⟩ | ⟨kvs,e⟩
  . obtain ⟨_,hd,vs,_,dd⟩:=zO I.hok e;refine ⟨dd.typeIs,fun b q=>?_,hd⟩;cases q;obtain ⟨ob,_,_,h1,h2,_⟩:=dd;exact ⟨ob,h1,h2.2.1⟩
  . obtain ⟨_,hd,xs,_,dd⟩:=a5E I.hok e;refine ⟨dd.typeIs,fun b q=>?_,hd⟩;cases q;obtain ⟨ob,_,_,h1,h2,_⟩:=dd;exact ⟨ob,h1,h2.2.1⟩
section
variable {X:Cx} {pins:List (Addr×Obj)} {σ:St} {H:Hp} {s:Shared} {a:Addr} {y d:V} {u r:Value} {o:Option V} {A:Around} {E:Value->Shared->Prop}
theorem aC4 (hu:A.units+1 < cLine) (I:Inv X pins σ H s) (g:a3Q H a y o) (ry:RelV y u) (rd:RelV d r) (h:∀ w' s',Inv X pins σ H s'->RelV (o.getD d) w'->Q w' s') :
    wpAny (model X.prog X.w) A (call (.builtin "dict.get") [.ref a,u,r]) Q E s:=by
  rcases g with ⟨kvs,k,e,ey,l⟩ | ⟨kvs,k,b,e,ey,eb,l⟩
  . subst ey;obtain ⟨z,hd,vs,rel,dd⟩:=zO I.hok e;refine call_meetsIn PySem.F.slot_dict_get dd.typeIs PySem.F.entry_dict_get (PySem.F.args_dict_get_3 _ _ _) (meets_dict_get_default (aP X.prog X.w) a (a5D ry) hd r) ⟨_,dd.mapOf,h _ _ (I.tok _) ?_⟩;rw [l];exact (rel.val k).getD rd
  . subst ey;cases (show u=Value.ref b from ry);obtain ⟨z,hd,xs,rel,dd⟩:=a5E I.hok e;refine call_meetsIn PySem.F.slot_dict_get dd.typeIs PySem.F.entry_dict_get (PySem.F.args_dict_get_3 _ _ _) (meetsH_dict_get_default (tupleKind (aP X.prog X.w)) a b hd r) ⟨tupleKind_room_in1 hu,k,xs,a09 I.hok eb,dd,h _ _ (I.tok _) ?_⟩;rw [l];exact (rel.val k).getD rd
end
noncomputable def aC5 (td ty tx:TE):TE:=fun σ H Q=>td σ H fun x H1=>∃ a,x = .ref a/\IsD H1 a/\ty σ H1 fun y H2=>tx σ H2 fun z H3=>∃ o,a3Q H3 a y o/\Q (o.getD z) H3
section
variable {X:Cx} {o e f:Expr} {apos cpos:Pos} {td ty tx:TE}
theorem aq9 (hu:X.A.units+1 < cLine) (ho:PE X o td) (he:PE X e ty) (hf:PE X f tx) (m:M2 X o "get" apos e f cpos):PE X (.Call (.Attribute o "get" apos) [e,f] [] cpos) (aC5 td ty tx):=by
  intro pins s σ H Q I h;refine wpAny_Call_method m.base m.few m.line PySem.F.plainAttrs_dict PySem.F.slot_dict_get PySem.F.type_dict_get (f9 (ho pins s σ H _ I h) fun u s1 ⟨x,H1,I1,rx,a,ex,d,q1⟩=>?_);subst ex;obtain rfl:u=Value.ref a:=rx;obtain ⟨t1,t2,_⟩:=a6W I1 d;refine ⟨t1,t2,?_⟩;rw [m.trees]
  refine Calls.callWith_builtin rfl (Calls.evalArgs_plain (Calls.spliced_cons (f9 (he pins s1 σ H1 _ I1 q1) fun iv s2 ⟨y,H2,I2,ry,q2⟩ =>
    Calls.spliced_cons (f9 (hf pins s2 σ H2 _ I2 q2) fun fv s3 ⟨z,H3,I3,rz,ov,g,q3⟩=>Calls.spliced_nil ?_))))
  exact aC4 hu I3 g ry rz fun w' s4 I4 rw'=>⟨_,H3,I4,rw',q3⟩
end
section
variable {X:Cx} {pins:List (Addr×Obj)} {σ:St} {H:Hp} {s:Shared} {a:Addr} {kvs:List (Key×V)} {A:Around} {E:Value->Shared->Prop}
end
section
variable {X:Cx} {pins:List (Addr×Obj)} {σ:St} {H:Hp} {s:Shared} {a:Addr} {y:V} {u:Value} {A:Around} {E:Value->Shared->Prop}
end
end
end L2
namespace HT
open PySem PyProof.Rows
section
open PySem.SeqAt
open PySem.AutoSeq1 (wpAny_loadPart')
open PySem.MeetsSeq PySem.MeetsSeq2 PySem.MeetsSeq3
end
section
variable {prog:Program} {w:World} {A:Around} {E:Value->Shared->Prop} {s:Shared}
theorem aw0 {t b:Addr} {vs ws:List Value} {Q:Value->Shared->Prop} (ht:IsTup s.heap t vs.toArray) (hb:IsTup s.heap b ws.toArray) (hv:vs≠[])
    (h1:ws=[]->Q (.ref t) s) (h2:ws≠[]->Q (.ref s.heap.objs.size) { s with heap:=s.heap.push { cls := .type "tuple",data := .seq (vs++ws).toArray } })
    (hsz:vs.length+ws.length<=sizeLine):wpAny (model prog w) A (binaryOp .Add (.ref t) (.ref b)) Q E s:=by
  obtain ⟨⟨cls,dd,data,sl⟩,ho,hc,n,hd⟩:=id ht;obtain ⟨⟨cls2,dd2,data2,sl2⟩,ho2,hc2,n2,hd2⟩:=id hb;simp only at hc hd hc2 hd2;subst hc hd hc2 hd2;have e:vs.toArray++ws.toArray=(vs++ws).toArray:=by simp
  by_cases hw:ws=[]
  . exact concat_meets ⟨_,ho,rfl⟩ ⟨_,ho2,rfl⟩ noFill_tuple_add seq_tuple_add PySem.F.slot_tuple_add PySem.F.entry_tuple_add (PySem.F.args_tuple_add_2 _ _)
      (tuple_addW1 t b vs.toArray ws.toArray n n2 dd dd2 sl sl2 (by simpa using hv) (by simp [hw])) ⟨ho,ho2,h1 hw⟩
  . refine concat_meets ⟨_,ho,rfl⟩ ⟨_,ho2,rfl⟩ noFill_tuple_add seq_tuple_add PySem.F.slot_tuple_add PySem.F.entry_tuple_add (PySem.F.args_tuple_add_2 _ _)
      (tuple_addW2 t b vs.toArray ws.toArray n n2 dd dd2 sl sl2 (by simpa using hv) (by simpa using hw) (by rw [bw,bw];exact hsz)) ⟨ho,ho2,?_⟩
    rw [e];exact h2 hw
noncomputable def sIx (n d:Nat):Option Int->Nat
  | none=>d
  | some v=>if v < 0 then (v+(n:Int)).toNat else min v.toNat n
end
end HT
namespace L2
open PySem PySem.Spec PyProof.Rows
variable {xs:List V}{us:List Value}
section
noncomputable abbrev TO:=St->Hp->(Option Int->Hp->Prop)->Prop
noncomputable def PO (X:Cx) (e:Option Expr) (t:TO):Prop :=
  ∀ (pins:List (Addr×Obj)) (s:Shared) (σ:St) (H:Hp) (Q:Option Int->Hp->Prop),Inv X pins σ H s->t σ H Q ->
    wpAny (model X.prog X.w) X.A (evalPart e X.env) (fun u s'=>∃ o H',Inv X pins σ H' s'/\IsPart u o/\Q o H') X.xe s
noncomputable def aw1:TO:=fun _ H Q=>Q none H
noncomputable def aHQ (t:TE):TO:=fun σ H Q=>t σ H fun x H1=>∃ i,x = .int i/\Q (some i) H1
section
variable {X:Cx} {e:Expr} {te:TE} {lo hi:Option Expr} {tl th:TO} {pos p2:Pos}
theorem aw2:PO X none aw1:=by
  intro pins s σ H Q I h;rw [evalPart_none];exact aq ⟨none,H,I,.none,h⟩
theorem aw3 (h:PE X e te):PO X (some e) (aHQ te):=by
  intro pins s σ H Q I hw;rw [evalPart_some];refine f9 (h pins s σ H _ I hw) fun u s1 ⟨x,H1,I1,r1,q1⟩=>?_;obtain ⟨i,rfl,q⟩:=q1;obtain ⟨t,rfl⟩:=r1;exact ⟨some i,H1,I1,.int i t,q⟩
noncomputable def SlR (X:Cx) (r:V->Option Int->Option Int->Hp->VK->Prop):Prop :=
  ∀ (pins:List (Addr×Obj)) (s:Shared) (σ:St) (H:Hp) (x:V) (v vl vu:Value) (lo hi:Option Int) (sl:Addr) (Q:VK),Inv X pins σ H s->RelV x v->s.heap.IsSliceOf sl vl vu .none->IsPart vl lo->IsPart vu hi->r x lo hi H Q ->
    ∃ T id,typeLookup (.type T) "__getitem__" = pure (some (.builtin id))/\s.TypeIs v T/\wpAny (model X.prog X.w) X.A (getItem v (.ref sl)) (EP X pins σ Q) X.xe s
theorem SlR.or {r r':V->Option Int->Option Int->Hp->VK->Prop} (h:SlR X r) (h':SlR X r'):SlR X (fun x lo hi H Q=>r x lo hi H Q∨r' x lo hi H Q):=by
  intro pins s σ H x v vl vu lo hi sl Q I rx hs pl pu q;rcases q with q | q
  . exact h pins s σ H x v vl vu lo hi sl Q I rx hs pl pu q
  . exact h' pins s σ H x v vl vu lo hi sl Q I rx hs pl pu q
noncomputable def aw4 (xs:List V) (lo hi:Option Int):List V:=(xs.drop (HT.sIx xs.length 0 lo)).take (HT.sIx xs.length xs.length hi - HT.sIx xs.length 0 lo)
theorem agN (xs:List V) (lo hi:Option Int):(aw4 xs lo hi).length<=xs.length:=by
  unfold aw4;rw [yw,List.length_drop];omega
noncomputable def aHS (K:cu):R2:=fun x y H Q=>∃ a b xs ys,x = .ref a/\y = .ref b/\SqT K H a xs/\SqT K H b ys/\xs≠[]/\xs.length+ys.length<=sizeLine /\
  (ys=[]->Q (.ref a) H)/\(ys≠[]->∀ p,H p=none->Q (.ref p) (upd H p (.tup (xs++ys))))
theorem Vals.a5F (r:Vals xs us):us=[]↔xs=[]:=by
  cases r with
  | nil=>simp
  | cons _ _=>simp
theorem aw5:wK X (binaryOp .Add) (aHS X.K):=by
  intro pins s σ H x y v u Q I rx ry h;obtain ⟨a,b,xs,ys,rfl,rfl,ha,hb,hx,hz,q1,q2⟩:=h;cases rx;cases ry;obtain ⟨its,r1,p1,_⟩:=I.tuple ha;obtain ⟨its2,r2,p2,_⟩:=I.tuple hb;refine HT.aw0 p1 p2 (fun z=>hx (r1.a5F.mp z)) (fun z=>⟨.ref a,H,I,rfl,q1 (r2.a5F.mp z)⟩) (fun z=>?_) (by rw [← r1.length,← r2.length];exact hz);refine ⟨.ref s.heap.objs.size,_,I.laid (t':=s.toks) (o := .tup (xs++ys)) (fun b ob q=>ao _ q) (au _) ?_,rfl,q2 (fun w=>z (r2.a5F.mpr w)) _ (I.hok.fresh (au _))⟩;exact ⟨by rw [qd];exact hz,_,r1.append r2,IsTup.new _ _⟩
end
end
variable {r:R2}{n:Nat}{i:Int}{pins:List (Addr×Obj)}{H:Hp}{s:Shared}{x:V}{u v:Value}
section
noncomputable def ixN (n:Nat) (i:Int):Option Nat:=if 0<=i then (if i < n then some i.toNat else none) else if -(n:Int)<=i then some (i+n).toNat else none
noncomputable def atI {α:Type} (xs:List α) (i:Int):Option α:=(ixN xs.length i).bind fun j=>xs[j]?
theorem aw6 {j:Nat} (h:ixN n i=some j):seqIndex? i n=some j/\j < n/\-(n:Int)<=i/\i < n:=by
  unfold ixN at h;by_cases h0:0<=i
  . rw [if_pos h0] at h;by_cases h1:i < n
    . rw [if_pos h1] at h;have e:i.toNat=j:=gk.inj h;exact ⟨by rw [seqIndex_of h0 h1,e],by omega,by omega,h1⟩
    . rw [if_neg h1] at h;cases h
  . rw [if_neg h0] at h;by_cases h1:-(n:Int)<=i
    . rw [if_pos h1] at h;have e:(i+n).toNat=j:=gk.inj h;exact ⟨by rw [seqIndex_neg (by omega) h1,e],by omega,h1,by omega⟩
    . rw [if_neg h1] at h;cases h
theorem aeM {α:Type} {xs:List α} {v:α} (h:atI xs i=some v):∃ j,seqIndex? i xs.length=some j/\xs[j]?=some v/\j < xs.length/\-(xs.length:Int)<=i/\i < xs.length:=by
  unfold atI at h;cases e:ixN xs.length i with
  | none=>rw [e] at h;cases h
  | some j =>
    rw [e] at h;obtain ⟨h1,h2,h3,h4⟩:=aw6 e;exact ⟨j,h1,h,h2,h3,h4⟩
noncomputable def aeN (b:Expr):Prop:=∀ o i,subscripted b false o i=operate [o,i] (getItem o i)
noncomputable def IxR (X:Cx) (r:R2):Prop :=
  ∀ (value slice:Expr) (pins:List (Addr×Obj)) (s:Shared) (σ:St) (H:Hp) (x y:V) (v u:Value) (Q:VK),Inv X pins σ H s->RelV x v->RelV y u->r x y H Q ->
    subscripted slice false v u=operate [v,u] (getItem v u)->wpAny (model X.prog X.w) X.A (subscriptTail value slice v u) (EP X pins σ Q) X.xe s
noncomputable def MtR (X:Cx) (id:String) (r:V->List V->Hp->VK->Prop):Prop :=
  ∀ (pins:List (Addr×Obj)) (s:Shared) (σ:St) (H:Hp) (x:V) (xs:List V) (v:Value) (us:List Value) (Q:VK),Inv X pins σ H s->RelV x v->Vals xs us->r x xs H Q ->
    wpAny (model X.prog X.w) X.A (call (.builtin id) (v :: us)) (EP X pins σ Q) X.xe s
variable {y:V}
section
variable {X:Cx} {a b:Expr} {ta tb:TE} {pos:Pos}
theorem IxR.or {r':R2} (h:IxR X r) (h':IxR X r'):IxR X (fun x y H Q=>r x y H Q∨r' x y H Q):=by
  intro value slice pins s σ H x y v u Q I rx ry q hs;rcases q with q | q
  . exact h value slice pins s σ H x y v u Q I rx ry q hs
  . exact h' value slice pins s σ H x y v u Q I rx ry q hs
theorem MtR.or {id:String} {r r':V->List V->Hp->VK->Prop} (h:MtR X id r) (h':MtR X id r'):MtR X id (fun x xs H Q=>r x xs H Q∨r' x xs H Q):=by
  intro pins s σ H x xs v us Q I rx rs q;rcases q with q | q
  . exact h pins s σ H x xs v us Q I rx rs q
  . exact h' pins s σ H x xs v us Q I rx rs q
theorem aHU (hr:IxR X r) (ha:PE X a ta) (hb:PE X b tb) (hs:aeN b):PE X (.Subscript a b pos) (tOp r ta tb):=by
  intro pins s σ H Q I h;exact Subscript_ (aBL ha hb I h fun v u s2 x y H2 I2 rx ry q=>hr a b pins s2 σ H2 x y v u Q I2 rx ry q (hs _ _))
noncomputable def aHV (K:cu):R2:=fun x y H Q=>∃ p xs i v,x = .ref p/\y = .int i/\SqL K H p xs/\atI xs i=some v/\Q v H
noncomputable def aHW (K:cu):R2:=fun x y H Q=>∃ p xs i v,x = .ref p/\y = .int i/\SqT K H p xs/\atI xs i=some v/\Q v H
noncomputable def aHX:R2:=fun x y H Q=>∃ z i c,x = .str z/\y = .int i/\z.length<=sizeLine/\atI z.cps.toList i=some c/\Q (.str ⟨#[c]⟩) H
theorem aw8:IxR X (aHV X.K):=by
  intro value slice pins s σ H x y v u Q I rx ry h hs;obtain ⟨p,xs,i,z,rfl,rfl,hq,he,q⟩:=h;cases rx;obtain ⟨t,rfl⟩:=ry;obtain ⟨its,r,pl,hz⟩:=I.list hq;obtain ⟨j,h1,h2,h3,h4,h5⟩:=aeM he;obtain ⟨w,ew,rw'⟩:=r.get h2;have hl:=r.length;have hn:=a9W;have fin:EP X pins σ Q w s:=⟨z,H,I,rw',q⟩;by_cases h0:0<=i
  . have hj:i.toNat=j:=by
      rw [seqIndex_of h0 h5] at h1;exact gk.inj h1
    exact item_listR pl.isList h0 (by omega) (by rw [hj];simpa using ew) fin hs
  . have hj:(i+(its.toArray.size:Int)).toNat=j:=by
      rw [seqIndex_neg (by omega) h4] at h1;rw [bw,← hl];exact gk.inj h1
    exact subscriptTail_builtinR (x:=w) pl.isList.typeIs slot_list_getitem.lookup
      (wpAny_getItem_list_neg (Q:=fun r s'=>r=w/\EP X pins σ Q r s') pl.isList (by omega) (by rw [bw] <;> omega) (by omega) (by rw [hj];simpa using ew) ⟨rfl,fin⟩) hs
theorem aC6:IxR X (aHW X.K):=by
  intro value slice pins s σ H x y v u Q I rx ry h hs;obtain ⟨p,xs,i,z,rfl,rfl,hq,he,q⟩:=h;cases rx;obtain ⟨t,rfl⟩:=ry;obtain ⟨its,r,pl,hz⟩:=I.tuple hq;obtain ⟨j,h1,h2,h3,h4,h5⟩:=aeM he;obtain ⟨w,ew,rw'⟩:=r.get h2;have hl:=r.length;have hn:=a9W;have fin:EP X pins σ Q w s:=⟨z,H,I,rw',q⟩
  exact subscriptTail_builtinR (x:=w) pl.typeIs slot_tuple_getitem.lookup
    (getItem_tuple (j:=j) (Q:=fun r s'=>r=w/\EP X pins σ Q r s') pl (by omega) (by omega) (by rw [bw,← hl];exact h1) (by simpa using ew) ⟨rfl,fin⟩) hs
theorem aC7:IxR X aHX:=by
  intro value slice pins s σ H x y v u Q I rx ry h hs;obtain ⟨z,i,c,rfl,rfl,hz,he,q⟩:=h;obtain ⟨t,rfl⟩:=rx;obtain ⟨t',rfl⟩:=ry;obtain ⟨j,h1,h2,h3,h4,h5⟩:=aeM he;have hl:z.cps.toList.length=z.length:=by simp [Str.length]
  rw [hl] at h1 h4 h5;have hn:=a9W
  exact tail_any (typeIs_str s z t) slot_str_getitem.lookup (getItem_str (c:=c) (by
    have e1:decide (i < -(2 ^ 63:Int))=false:=decide_eq_false (by omega);have e2:decide (i≥2 ^ 63)=false:=decide_eq_false (by omega);rw [e1,e2,Bool.or_false]) (by rw [h1];simpa using h2) ⟨.str ⟨#[c]⟩,H,I.tok _,⟨_,rfl⟩,q⟩) hs
noncomputable def rIx (K:cu):R2:=fun x y H Q=>aHV K x y H Q∨aHW K x y H Q∨aHX x y H Q
theorem aC8:IxR X (rIx X.K):=aw8.or (aC6.or aC7)
theorem Inv.lst {σ:St} {p:Addr} (I:Inv X pins σ H s) (h:H p=some (.lst xs)) :
    ∃ (its:List Value) (n:Nat),Vals xs its/\s.heap.get? p=some { cls := .type "list",data := .seq its.toArray n }/\xs.length<=sizeLine:=by
  obtain ⟨z,its,n,r,e⟩:=I.hok p _ h;exact ⟨its,n,r,e,z⟩
theorem aeO (lo hi:Option Int) (n:Nat):(sliceBounds lo hi none n).1=((HT.sIx n 0 lo:Nat):Int)/\(sliceBounds lo hi none n).2.1=((HT.sIx n n hi:Nat):Int)/\(sliceBounds lo hi none n).2.2=1:=by
  refine ⟨?_,?_,rfl⟩
  . cases lo with
    | none=>simp [sliceBounds,HT.sIx]
    | some i =>
      simp only [sliceBounds,HT.sIx,Option.getD_none,show (1:Int) > 0 by decide,if_true];by_cases h:i < 0
      . simp only [h,if_true] <;> omega
      . simp only [h,if_false] <;> omega
  . cases hi with
    | none=>simp [sliceBounds,HT.sIx]
    | some i =>
      simp only [sliceBounds,HT.sIx,Option.getD_none,show (1:Int) > 0 by decide,if_true];by_cases h:i < 0
      . simp only [h,if_true] <;> omega
      . simp only [h,if_false] <;> omega
theorem acF (its:List Value) (lo hi:Option Int):slicePick its.toArray lo hi none=((its.drop (HT.sIx its.length 0 lo)).take (HT.sIx its.length its.length hi - HT.sIx its.length 0 lo)).toArray:=by
  obtain ⟨h1,h2,h3⟩:=aeO lo hi its.toArray.size;unfold slicePick;rw [h1,h2,h3];simp only [sliceRange_one,pick_run,bw] <;> rfl
noncomputable def aME (K:cu):V->Option Int->Option Int->Hp->VK->Prop:=fun x lo hi H Q=>∃ a xs,x = .ref a/\SqL K H a xs/\∀ p,H p=none->Q (.ref p) (upd H p (.lst (aw4 xs lo hi)))
theorem aL6:SlR X (aME X.K):=by
  intro pins s σ H x v vl vu lo hi sl Q I rx hs pl pu h;obtain ⟨a,xs,rfl,hx,q⟩:=h;cases rx;obtain ⟨its,r,ht,hz⟩:=I.list hx;have hlen:=r.length;refine ⟨"list",_,slot_list_getitem.lookup,ht.isList.typeIs,?_⟩;refine wpAny_getItem_list_slice ht.isList hs pl pu .none (by simp) ?_ (by rw [bw] <;> omega);rw [acF,← hlen];refine ⟨.ref s.heap.objs.size,_,I.laid (t':=s.toks) (o := .lst (aw4 xs lo hi)) (fun b ob q=>ao _ q) (au _) ?_,rfl,q _ (I.hok.fresh (au _))⟩;exact ⟨jj (agN xs lo hi) hz,_,0,(r.drop (HT.sIx xs.length 0 lo)).take (HT.sIx xs.length xs.length hi - HT.sIx xs.length 0 lo),cg _ rfl⟩
noncomputable def zP:V->Bool
  | .non=>true
  | .bl _=>true
  | .int _=>true
  | .str _=>true
  | _=>false
noncomputable def eqV:V->V->Bool
  | .non,.non=>true
  | .bl a,.bl b=>a == b
  | .bl a,.int b=>(if a then 1 else 0) == b
  | .int a,.bl b=>a == (if b then 1 else 0)
  | .int a,.int b=>a == b
  | .str a,.str b=>a == b
  | _,_=>false
theorem a6X {A:Around} (ry:RelV y u) (rx:RelV x v) (fy:zP y=true) (fx:zP x=true):SeqAt.EqAt A s u v (eqV y x):=by
  cases y with
  | non =>
    cases ry;cases x with
    | non=>cases rx;exact SeqAt.EqAt.same _
    | bl b=>cases rx;exact SeqAt.EqAt.none_bool b
    | int b=>obtain ⟨t,rfl⟩:=rx;exact SeqAt.EqAt.none_int b t
    | str b=>obtain ⟨t,rfl⟩:=rx;exact SeqAt.EqAt.none_str b t
    | _=>exact absurd (show false=true from fx) jm
  | bl a =>
    cases ry;cases x with
    | non=>cases rx;exact SeqAt.EqAt.bool_none a
    | bl b=>cases rx;exact SeqAt.EqAt.bool_bool a b
    | int b=>obtain ⟨t,rfl⟩:=rx;exact SeqAt.EqAt.bool_int a b t
    | str b=>obtain ⟨t,rfl⟩:=rx;exact SeqAt.EqAt.bool_str a b t
    | _=>exact absurd (show false=true from fx) jm
  | int a =>
    obtain ⟨t',rfl⟩:=ry;cases x with
    | non=>cases rx;exact SeqAt.EqAt.int_none a t'
    | bl b=>cases rx;exact SeqAt.EqAt.int_bool a t' b
    | int b=>obtain ⟨t,rfl⟩:=rx;exact SeqAt.EqAt.int_int a t' b t
    | str b=>obtain ⟨t,rfl⟩:=rx;exact SeqAt.EqAt.int_str a t' b t
    | _=>exact absurd (show false=true from fx) jm
  | str a =>
    obtain ⟨t',rfl⟩:=ry;cases x with
    | non=>cases rx;exact SeqAt.EqAt.str_none a t'
    | bl b=>cases rx;exact SeqAt.EqAt.str_bool a t' b
    | int b=>obtain ⟨t,rfl⟩:=rx;exact SeqAt.EqAt.str_int a t' b t
    | str b=>obtain ⟨t,rfl⟩:=rx;exact SeqAt.EqAt.str_str a t' b t
    | _=>exact absurd (show false=true from fx) jm
  | _=>exact absurd (show false=true from fy) jm
noncomputable def eqU (x:V) (u:Value):Bool:=match u with
  | .none=>eqV .non x
  | .bool b=>eqV (.bl b) x
  | .int i _=>eqV (.int i) x
  | .str z _=>eqV (.str z) x
  | _=>false
theorem aqA (r:RelV y u) (f:zP y=true):eqU x u=eqV y x:=by
  cases y with
  | non=>cases r;rfl
  | bl b=>cases r;rfl
  | int i=>obtain ⟨t,rfl⟩:=r;rfl
  | str z=>obtain ⟨t,rfl⟩:=r;rfl
  | _=>exact absurd (show false=true from f) jm
theorem a5G {x:V}:∀ {xs:List V} {us:List Value},Vals xs us->xs.all zP=true->us.any (eqU x)=xs.any fun y=>eqV y x
  | _,_,.nil,_=>rfl
  | y :: xs,u :: us,.cons r t,f=>by
    rw [qm,ak] at f;rw [qz,qz,aqA r f.1,a5G t f.2]
theorem a0A {A:Around} {s:Shared} {x:V} {v:Value} (rx:RelV x v) (fx:zP x=true):∀ {xs:List V} {us:List Value},Vals xs us->xs.all zP=true->∀ u∈us,SeqAt.EqAt A s u v (eqU x u)
  | _,_,.nil,_=>fun u hu=>by cases hu
  | y :: xs,u :: us,.cons r t,f=>fun u' hu=>by
    rw [qm,ak] at f;rcases ig.mp hu with rfl | hu
    . rw [aqA r f.1];exact a6X r rx f.1 fx
    . exact a0A rx fx t f.2 u' hu
noncomputable def inV (x:V) (xs:List V):Bool:=xs.any fun y=>eqV y x
noncomputable def rIn (K:cu) (neg:Bool):R2:=fun x y H Q=>∃ p xs,y = .ref p/\(SqL K H p xs∨SqT K H p xs)/\zP x=true/\xs.all zP=true/\Q (.bl (if neg then !inV x xs else inV x xs)) H
theorem ao0:wK X (compareOp .In) (rIn X.K false):=by
  intro pins s σ H x y v u Q I rx ry h;obtain ⟨p,xs,rfl,hq,fx,fs,q⟩:=h;cases ry;rcases hq with hq | hq
  . obtain ⟨its,r,pl,hz⟩:=I.list hq;refine SeqAt.in_listAt (eqU x) pl.isList (fun w hw=>a0A rx fx r fs w (by simpa using hw)) ⟨.bl _,H,I,rfl,?_⟩;rw [show its.toArray.any (eqU x)=its.any (eqU x) by simp,a5G r fs];exact q
  . obtain ⟨its,r,pl,hz⟩:=I.tuple hq;refine SeqAt.in_tupleAt (eqU x) pl (fun w hw=>a0A rx fx r fs w (by simpa using hw)) ⟨.bl _,H,I,rfl,?_⟩;rw [show its.toArray.any (eqU x)=its.any (eqU x) by simp,a5G r fs];exact q
theorem aeP:wK X (compareOp .NotIn) (rIn X.K true):=by
  intro pins s σ H x y v u Q I rx ry h;obtain ⟨p,xs,rfl,hq,fx,fs,q⟩:=h;cases ry;rcases hq with hq | hq
  . obtain ⟨its,r,pl,hz⟩:=I.list hq;refine SeqAt.notIn_listAt (eqU x) pl.isList (fun w hw=>a0A rx fx r fs w (by simpa using hw)) ⟨.bl _,H,I,rfl,?_⟩;rw [show its.toArray.any (eqU x)=its.any (eqU x) by simp,a5G r fs];exact q
  . obtain ⟨its,r,pl,hz⟩:=I.tuple hq;refine SeqAt.notIn_tupleAt (eqU x) pl (fun w hw=>a0A rx fx r fs w (by simpa using hw)) ⟨.bl _,H,I,rfl,?_⟩;rw [show its.toArray.any (eqU x)=its.any (eqU x) by simp,a5G r fs];exact q
theorem aeQ:wM X (.builtin "len") (fun xs H Q=>∃ p ys,xs=[.ref p]/\(SqL X.K H p ys∨SqT X.K H p ys)/\Q (.int ys.length) H):=by
  intro pins s σ H xs us Q I r h;obtain ⟨p,ys,rfl,hq,q⟩:=h;obtain ⟨u,rfl,rx⟩:=vals1 r;cases rx;have hn:=a9W;rcases hq with hq | hq
  . obtain ⟨its,r',pl,hz⟩:=I.list hq;have hlen:=r'.length;exact Calls.call_len_list pl.isList (by simp only [bw] <;> omega) ⟨.int ys.length,H,I.tok _,⟨s.toks+1,by rw [bw,hlen]⟩,q⟩
  . obtain ⟨its,r',pl,hz⟩:=I.tuple hq;have hlen:=r'.length;exact len_tuple pl (by simp only [bw] <;> omega) ⟨.int ys.length,H,I.tok _,⟨s.toks+1,by rw [bw,hlen]⟩,q⟩
theorem aeR:wM X (.builtin "len") (fun xs H Q=>∃ z,xs=[.str z]/\z.length<=sizeLine/\Q (.int z.length) H):=by
  intro pins s σ H xs us Q I r h;obtain ⟨z,rfl,hz,q⟩:=h;obtain ⟨u,rfl,t,rfl⟩:=vals1 r;have hn:=a9W;exact len_str (by omega) ⟨.int z.length,H,I.tok _,⟨_,rfl⟩,q⟩
theorem wM.or {f:Value} {r r':List V->Hp->VK->Prop} (h:wM X f r) (h':wM X f r'):wM X f (fun xs H Q=>r xs H Q∨r' xs H Q):=by
  intro pins s σ H xs us Q I rs q;rcases q with q | q
  . exact h pins s σ H xs us Q I rs q
  . exact h' pins s σ H xs us Q I rs q
theorem aeS:wM X (.type "list") (fun xs H Q=>∃ p ys,xs=[.ref p]/\(SqL X.K H p ys∨SqT X.K H p ys)/\∀ l,H l=none->Q (.ref l) (upd H l (.lst ys))):=by
  intro pins s σ H xs us Q I r h;obtain ⟨p,ys,rfl,hq,q⟩:=h;obtain ⟨u,rfl,rx⟩:=vals1 r;cases rx
  have fin:∀ (its:List Value),Vals ys its->ys.length<=sizeLine->∀ (h':Heap) (c':Nat),(∀ b o',s.heap.get? b=some o'->h'.get? b=some o') ->
      h'.get? s.heap.objs.size=some { cls := .type "list",dict:=none,data := .seq its.toArray c',slots:=#[] }->EP X pins σ Q (.ref s.heap.objs.size) { s with heap:=h' }:=fun its r' hz h' c' kp e =>
    ⟨.ref s.heap.objs.size,_,I.laid (t':=s.toks) kp (au _) (show gQ X.prog X.w _ h' _ (.lst ys) from ⟨hz,its,c',r',e⟩),rfl,q _ (I.hok.fresh (au _))⟩
  rcases hq with hq | hq
  . obtain ⟨its,r',pl,hz⟩:=I.list hq;have hlen:=r'.length;obtain ⟨o,ho,hc,n,hd⟩:=pl.isList;exact call_list_seq p (.inl rfl) ho hc hd (fun h' c' kp e=>fin its r' hz h' c' kp e) (by simp only [bw] <;> omega)
  . obtain ⟨its,r',pl,hz⟩:=I.tuple hq;have hlen:=r'.length;obtain ⟨o,ho,hc,n,hd⟩:=pl;exact call_list_seq p (.inr rfl) ho hc hd (fun h' c' kp e=>fin its r' hz h' c' kp e) (by simp only [bw] <;> omega)
theorem acG:wM X (.type "tuple") (fun xs H Q=>∃ p ys,xs=[.ref p]/\((SqL X.K H p ys/\∀ l,H l=none->Q (.ref l) (upd H l (.tup ys)))∨(SqT X.K H p ys/\Q (.ref p) H))):=by
  intro pins s σ H xs us Q I r h;obtain ⟨p,ys,rfl,h⟩:=h;obtain ⟨u,rfl,rx⟩:=vals1 r;cases rx;rcases h with ⟨hq,q⟩ | ⟨hq,q⟩
  . obtain ⟨its,r',pl,hz⟩:=I.list hq;have hlen:=r'.length;refine call_tuple_list pl.isList (fun h' kp=>?_) (by simp only [bw] <;> omega);have I1:Inv X pins σ H { s with heap:=h' }:=I.kept (t':=s.toks) kp
    have I2:Inv X pins σ (upd H h'.objs.size (.tup ys)) { s with heap:=h'.push { cls := .type "tuple",data := .seq its.toArray } } :=
      I1.laid (t':=s.toks) (fun b o e=>ao _ e) (au _) (show gQ X.prog X.w _ _ _ (.tup ys) from ⟨hz,its,r',IsTup.new _ _⟩)
    exact ⟨.ref h'.objs.size,_,I2,rfl,q _ (I1.hok.fresh (au _))⟩
  . obtain ⟨its,r',pl,hz⟩:=I.tuple hq;exact call_tuple_same pl ⟨.ref p,H,I,rfl,q⟩
noncomputable def tyV (K:cu) (T:String) (x:V) (H:Hp):Prop:=match x with
  | .str _=>T = "str"
  | .int _=>T = "int"
  | .ref p=>(T = "list" /\ ∃ xs,SqL K H p xs)∨(T = "tuple" /\ ∃ o,K.lookup p=some o/\o.cls = .type "tuple" /\ o.dict=none) ∨
      (T = "dict" /\ ((∃ kvs,H p=some (.dK kvs))∨∃ kvs,H p=some (.dT kvs)))∨(T = "set" /\ ∃ S n,H p=some (.set S n))
  | _=>False
theorem aqB {σ:St} {T:String} (I:Inv X pins σ H s) (r:RelV x v) (ty:tyV X.K T x H) :
    s.TypeIs v T/\∀ a,v = .ref a->∃ ob,s.heap.get? a=some ob/\ob.dict=none:=by
  cases x with
  | str z =>
    obtain ⟨t,rfl⟩:=r;cases (show T = "str" from ty);exact ⟨typeIs_str s z t,fun _ e=>nomatch e⟩
  | int i =>
    obtain ⟨t,rfl⟩:=r;cases (show T = "int" from ty);exact ⟨typeIs_int s i t,fun _ e=>nomatch e⟩
  | ref p =>
    cases r;rcases ty with ⟨rfl,xs,hq⟩ | ⟨rfl,o,hk,hc,hd⟩ | ⟨rfl,hk⟩ | ⟨rfl,S,n,hk⟩
    . obtain ⟨its,_,pl,_⟩:=I.list hq;refine ⟨pl.isList.typeIs,fun a e=>?_⟩;cases e;obtain ⟨o,n,e,c,hd,_⟩:=pl;exact ⟨o,e,hd⟩
    . refine ⟨⟨o,I.kIn p o hk,hc⟩,fun a e=>?_⟩;cases e;exact ⟨o,I.kIn _ o hk,hd⟩
    . have z:∃ o,s.heap.get? p=some o/\o.ExactDict:=by
        rcases hk with ⟨kvs,hk⟩ | ⟨kvs,hk⟩
        . obtain ⟨_,_,_,_,o,_,_,e,ex,_⟩:=I.hok p _ hk;exact ⟨o,e,ex⟩
        . obtain ⟨_,_,_,_,o,_,_,e,ex,_⟩:=I.hok p _ hk;exact ⟨o,e,ex⟩
      obtain ⟨o,e,ex⟩:=z;refine ⟨⟨o,e,ex.1⟩,fun a e2=>?_⟩;cases e2;exact ⟨o,e,ex.2.1⟩
    . obtain ⟨o,_,_,_,e,ex,_⟩:=I.hok p _ hk;refine ⟨⟨o,e,ex.1⟩,fun a e2=>?_⟩;cases e2;exact ⟨o,e,ex.2.1⟩
  | _=>exact False.elim ty
variable {o e:Expr} {es:List Expr} {to:TE} {t:TA} {name:Str} {apos cpos:Pos} {T id:String} {r:V->List V->Hp->VK->Prop}
end
end
variable {its:List Value}{t':Nat}
section
noncomputable def MtM (X:Cx) (id:String) (r:V->List V->Hp->VK->Prop):Prop :=
  ∀ (pins:List (Addr×Obj)) (s:Shared) (σ:St) (H:Hp) (x:V) (xs:List V) (v:Value) (us:List Value) (Q:VK),Inv X pins σ H s->RelV x v->Vals xs us->r x xs H Q ->
    wpAny (model X.prog X.w) X.A (call (.builtin id) (v :: us)) (EP X pins σ Q) X.xe s
theorem Vals.one:∀ {x:V} {us:List Value},Vals [x] us->∃ u,us=[u]/\RelV x u
  | _,_,.cons r .nil=>⟨_,rfl,r⟩
theorem Vals.zero:∀ {us:List Value},Vals [] us->us=[]
  | _,.nil=>rfl
theorem Vals.dropLast (h:Vals xs us):Vals xs.dropLast us.dropLast:=by
  induction h with
  | nil=>exact .nil
  | cons r t ih =>
    cases t with
    | nil=>exact .nil
    | cons q t'=>exact .cons r ih
theorem Vals.eraseIdx:∀ {xs:List V} {us:List Value} (i:Nat),Vals xs us->Vals (xs.eraseIdx i) (us.eraseIdx i)
  | _,_,_,.nil => .nil
  | _,_,0,.cons _ t=>t
  | _,_,i+1,.cons r t => .cons r (Vals.eraseIdx i t)
theorem ak3 {α:Type} (l:List α):l.eraseIdx (l.length - 1)=l.dropLast:=by
  induction l with
  | nil=>rfl
  | cons a r ih =>
    cases r with
    | nil=>rfl
    | cons b r =>
      have e:(a :: b :: r).length - 1=((b :: r).length - 1)+1:=by
        have h1:(a :: b :: r).length=r.length+2:=rfl;have h2:(b :: r).length=r.length+1:=rfl;omega
      rw [e,List.eraseIdx_cons_succ,ih]
      all_goals rfl
section
variable {X:Cx} {pins:List (Addr×Obj)} {σ:St} {H:Hp} {s:Shared} {l b:Addr} {xs ys zs:List V}
theorem Inv.aC9 {its':List Value} {f:Array Value->Array Value} (I:Inv X pins σ H s) (hH:H l=some (.lst xs))
    (e:s.heap.get? l=some { cls := .type "list",data := .seq its.toArray n }) (hf:f its.toArray=its'.toArray) (hv:Vals ys its') (hz:ys.length<=sizeLine) :
    Inv X pins σ (upd H l (.lst ys)) { s with heap:=s.heap.update l (Obj.mapSeq f),toks:=t' }:=by
  have q:=PySem.IsL.update e f;rw [hf] at q;refine I.write (x:=l) (e:=l) (by rw [hH];exact trivial) (.inl rfl) (fun b' u hb hu=>(Heap.get?_update_other s.heap (Obj.mapSeq f) (Ne.symm hb)).trans hu) ⟨_,q⟩ ?_;exact ⟨hz,its',_,hv,q⟩
theorem Inv.aHY (I:Inv X pins σ H s) (hv:Vals ys its) (hz:ys.length<=sizeLine) :
    Inv X pins σ (upd H s.heap.objs.size (.lst ys)) { s with heap:=s.heap.push { cls := .type "list",data := .seq its.toArray },toks:=t' } :=
  I.laid (fun _ _ q=>ao _ q) (au _) ⟨hz,its,0,hv,cg _ rfl⟩
theorem Inv.fresh (I:Inv X pins σ H s):H s.heap.objs.size=none:=I.hok.fresh (au _)
theorem Inv.ao1 (I:Inv X pins σ H s) (hH:H l=some (.lst xs)):xs.length<=sizeLine/\∃ (its:List Value) (n:Nat),Vals xs its/\xs.length=its.length/\s.heap.get? l=some { cls := .type "list",data := .seq its.toArray n }:=by
  obtain ⟨z,its,n,r,e⟩:=I.hok l _ hH;exact ⟨z,its,n,r,r.length,e⟩
theorem aqC (h:n<=sizeLine):Builtin.List.listTooLong n=false:=by
  unfold Builtin.List.listTooLong;exact decide_eq_false (by omega)
end
section
variable {X:Cx}
noncomputable def aw9:V->List V->Hp->VK->Prop:=fun x vs H Q=>∃ l xs y,x = .ref l/\vs=[y]/\H l=some (.lst xs)/\xs.length < sizeLine/\Q .non (upd H l (.lst (xs++[y])))
theorem adD:MtM X "list.append" aw9:=by
  intro pins s σ H x vs v us Q I rx rv h;obtain ⟨l,xs,y,rfl,rfl,hH,hz,q⟩:=h;cases rx;obtain ⟨u,rfl,ru⟩:=rv.one;obtain ⟨z,its,n,r,hl,e⟩:=I.ao1 hH;refine call_meets F.slot_list_append ⟨_,e,rfl⟩ F.entry_list_append (F.args_list_append_2 _ _) (PySem.list_append l its.toArray n u (by rw [bw];omega)) ⟨e,?_⟩;refine ⟨.non,_,I.aC9 (its':=its++[u]) hH e (by simp) (r.append (.cons ru .nil)) ?_,rfl,q⟩;rw [qd,List.length_singleton];omega
noncomputable def awA:V->List V->Hp->VK->Prop:=fun x vs H Q=>∃ l b xs zs,x = .ref l/\vs=[.ref b]/\H l=some (.lst xs)/\H b=some (.lst zs)/\xs.length+zs.length<=sizeLine/\Q .non (upd H l (.lst (xs++zs)))
theorem aGB:MtM X "list.extend" awA:=by
  intro pins s σ H x vs v us Q I rx rv h;obtain ⟨l,b,xs,zs,rfl,rfl,hH,hB,hz,q⟩:=h;cases rx;obtain ⟨u,rfl,ru⟩:=rv.one;cases ru;obtain ⟨z,its,n,r,hl,e⟩:=I.ao1 hH;obtain ⟨z2,its2,n2,r2,hl2,e2⟩:=I.ao1 hB;have hsz:its.toArray.size+its2.toArray.size<=sizeLine:=by rw [bw,bw];omega
  have aHZ:¬ (!its.toArray.isEmpty&&Builtin.List.listTooLong (its.toArray.size+its2.toArray.size))=true:=by
    rw [aqC hsz,Bool.and_false];exact jm
  refine call_meets F.slot_list_extend ⟨_,e,rfl⟩ F.entry_list_extend (F.args_list_extend_2 _ _)
    (AutoSeq1.list_extend_list_list_0 l its.toArray n b its2.toArray n2 aHZ (by rw [bw];omega) (by omega)) ⟨e,e2,?_⟩
  refine ⟨.non,_,I.aC9 (its':=its++its2) hH e (by simp) (r.append r2) ?_,rfl,q⟩;rw [qd];omega
noncomputable def aMG:V->List V->Hp->VK->Prop:=fun x vs H Q=>∃ l xs y,x = .ref l/\vs=[]/\H l=some (.lst xs)/\xs[xs.length - 1]?=some y/\Q y (upd H l (.lst xs.dropLast))
theorem aCA:MtM X "list.pop" aMG:=by
  intro pins s σ H x vs v us Q I rx rv h;obtain ⟨l,xs,y,rfl,rfl,hH,hy,q⟩:=h;cases rx;have hus:=rv.zero;subst hus;obtain ⟨z,its,n,r,hl,e⟩:=I.ao1 hH;obtain ⟨u,hu,ru⟩:=r.get hy
  have hy':its.toArray[its.toArray.size - 1]?=some u:=by
    show its.toArray[its.length - 1]?=some u;rw [← tu,← hl];exact hu
  refine call_meets F.slot_list_pop ⟨_,e,rfl⟩ F.entry_list_pop (F.args_list_pop_1 _) (MeetsSeq.list_pop_last l its.toArray n u hy' (by rw [bw];omega)) ⟨e,?_⟩;refine ⟨y,_,I.aC9 (its':=its.dropLast) hH e ?_ r.dropLast ?_,ru,q⟩
  . show its.toArray.eraseIdxIfInBounds (its.toArray.size - 1)=its.dropLast.toArray;rw [bw,List.eraseIdxIfInBounds_toArray,ak3]
  . rw [List.length_dropLast];omega
noncomputable def aMH:R2:=fun x y H Q=>∃ l b xs zs,x = .ref l/\y = .ref b/\H l=some (.lst xs)/\H b=some (.lst zs)/\xs.length+zs.length<=sizeLine/\∀ p,H p=none->Q (.ref p) (upd H p (.lst (xs++zs)))
theorem aCB:wK X (binaryOp .Add) aMH:=by
  intro pins s σ H x y v u Q I rx ry h;obtain ⟨l,b,xs,zs,rfl,rfl,hH,hB,hz,q⟩:=h;cases rx;cases ry;obtain ⟨z,its,n,r,hl,e⟩:=I.ao1 hH;obtain ⟨z2,its2,n2,r2,hl2,e2⟩:=I.ao1 hB;refine PySem.P.add_list e e2 ?_ (by rw [bw,bw];omega);have ea:its.toArray++its2.toArray=(its++its2).toArray:=by simp
  rw [ea];exact ⟨.ref _,_,I.aHY (t':=s.toks) (r.append r2) (by rw [qd];omega),rfl,q _ I.fresh⟩
end
section
variable {prog:Program} {w:World} {A:Around} {E:Value->Shared->Prop} {s:Shared}
end
section
variable {X:Cx}
end
end
end L2
namespace Att
open PySem PySem.W PySem.Calls PyProof.Rows
variable {P:Params}{h:Heap}
theorem a8T:∀ (ns:List Int) (vs:List Value),WellAll P h vs (ns.map WData.int)->IntsAre vs ns:=by
  intro ns
  induction ns with
  | nil =>
    intro vs w;rw [List.map_nil] at w;cases w;exact .nil
  | cons n ns ih =>
    intro vs w;rw [dj] at w;cases w with
    | cons a b =>
      cases a;exact .cons _ _ (ih _ b)
variable {l:OpenLaw}{n:Nat}
theorem ao2 (hn:l.most=some n) {args:List WData} {vals:List Value}
    (hpre:l.row.toRowW.claim.pre args=true) (hwl:WellAll P h vals args) :
    ∃ a vs ns,vals=[Value.ref a]/\args=[WData.list (ns.map WData.int)]/\h.get? a=some { cls := .type "list",data := .seq vs.toArray }/\IntsAre vs ns/\ns.length<=n:=by
  have hsh:WShape.hasAll [] args [.list .int]=true:=(pre_splitW hpre).1;have hc:l.pre.holds [] { args:=args }=true:=(pre_splitW hpre).2;obtain ⟨d,r,rfl,h1,h2⟩:=hasAllW_cons hsh;obtain rfl:=hasAllW_nil h2;obtain ⟨xs,rfl,h3⟩:=hasW_list h1;obtain ⟨ns,rfl⟩:=items_int h3
  have hlen:ns.length<=n:=by
    unfold OpenLaw.pre at hc
    have h4:(WTm.not (.lt (.lit (.int (n:Int))) (.len (.arg 0)))).holds [] { args:=[.list (ns.map .int)] }=true:=by
      have h4:=(holds_andW hc).1;rw [hn] at h4;exact h4
    have h5:=condW_of h4 (w_not (w_lt w_lit (w_len_list (w_arg rfl))));rw [dh] at h5;refine Nat.le_of_not_lt fun q=>?_;have q':(n:Int) < ((ns.length:Nat):Int):=by omega
    first
      | (rw [decide_eq_true q'] at h5;exact absurd h5 (by decide))
      | (simp at h5;omega)
  cases hwl with
  | cons w1 w2 =>
    cases w2;cases w1 with
    | list ho hall=>exact ⟨_,_,ns,rfl,rfl,ho,a8T ns _ hall,hlen⟩
theorem ao3 (l:OpenLaw) (args:List WData):l.row.toRowW.claim.post args (.bool true) args=true :=
  postW_of (r:=l.row.toRowW) (X:=(true == true))
    (show WShape.has [] (.bool true) .bool=true by first | rfl | decide | simp [WShape.has,WShape.arms,WShape.armsAll])
    (show (WTm.eq .res (.lit (.bool true))).value [] { args:=args,res:=some (.bool true),after:=args }=some (.bool (true == true)) from w_eq_bool (w_res rfl) w_lit) rfl
theorem agO {q:Program} {loose:List Str} {XP:(Str->Option Value)->Heap->Prop} {YP:World->Heap->Prop} {d:DefRec}
    (hn:l.most=some n) (hdf:d.params.defaults=[])
    (call:∀ (w:World) (s₀ s₁:Shared) (mg mb:Str->Option Value) (fa:Addr) (o:Obj) (pm cd doc:Value) (a:Addr) (vs:List Value) (ns:List Int),
      Ground q loose [] XP w s₀ mg mb s₁.heap->YP w s₁.heap ->
      s₁.heap.get? fa=some o->o.data = .func (docDef d.name d.params d.body d.scope pm cd doc)->s₁.heap.CodeRec cd d.name->mg d.name=some (.ref fa) ->
      s₁.heap.get? a=some { cls := .type "list",data := .seq vs.toArray }->IntsAre vs ns->ns.length<=n->s₁.gens=#[] ->
      codeAny (model l.prog w) callerA (.call (.ref fa) ⟨[.ref a],[]⟩) (fun r s'=>r = .ok (.ret (.bool true))/\OldK s₁.heap s'.heap/\s'.os=s₁.os/\AllBare s'.gens) s₁) :
    WalkO q loose XP YP l.row.toRowW d [] (fun f vs=>PySem.call f vs):=by
  intro w s₀ s₁ mg mb G Y fa o pm cd doc dV kV ho hd hcd hD hmg hg args vals as hpre hlay hrd hwl hlo;obtain rfl:dV = .none:=Dflts.none hD hdf;obtain rfl:kV = .none:=Dflts.noKw hD;obtain ⟨a,vs,ns,rfl,rfl,hobj,hints,hlen⟩:=ao2 hn hpre hwl;refine enter_call (codeAny_mono (call w s₀ s₁ mg mb fa o pm cd doc a vs ns G Y ho (fd_plain hd) hcd hmg hobj hints hlen hg) fun r s' hq=>?_);obtain ⟨rfl,h2,h3,h4⟩:=hq;exact ⟨.inl ⟨.bool true,.bool true,[],rfl,fun _=>rfl,.bool true,ao3 l _,fun _=>⟨List.Pairwise.nil,fun _ hm=>(nomatch hm)⟩⟩,h2,h3,h4⟩
section
variable {prog:Program} {w:World} {A:Around} {E:Value->Shared->Prop} {s:Shared} {K:Frag}
noncomputable def ledger (h:Heap) (L d:Addr):List (Addr×Obj):=(ji h.objs.size).filterMap fun a=>if a=L∨a=d then none else (h.get? a).map fun o=>(a,o)
end
end Att
namespace L2
open PySem PySem.Spec PyProof.Rows
variable {P:Program}{mg:Str->Option Value}{a:Addr}{fd:FuncData}{x:Str}{sp:Sp}
section
theorem adE:∀ {vs:List Value} {ns:List Int},IntsAre vs ns->Vals (ns.map V.int) vs
  | _,_,.nil => .nil
  | _,_,.cons n t h => .cons ⟨t,rfl⟩ (adE h)
noncomputable def Only (H:Hp):Prop:=∀ b,H b=none∨∃ o xs,H b=some (.lW o (.lst xs))
theorem aqD {w:World} {K:cu} {mb:Str->Option Value} {CX:CXT} {k:Nat} {fa:Addr} {s₁:Shared} {vs:List Value} {ns:List Int}
    (KX:K.In s₁.heap) (hns:s₁.heap.Ns mainGlobals mg) (hb:s₁.heap.Ns builtinsNs mb) (hbb:∀ x:Str,x ≠ "__name__" -> mb x=bootBuiltins x) (hlim:s₁.heap.NoLimit) (hg:s₁.gens=#[])
    (ha:s₁.heap.get? a=some { cls := .type "list",data := .seq vs.toArray }) (hi:IntsAre vs ns) (hl:ns.length<=sizeLine) (hr:jH qt k callerA)
    (F:∀ base:Heap,K.In base->base.Ns mainGlobals mg->cM qt P w K mg base CX k fa fd [x] sp) (hbind:∀ (s:Shared) (u:Value),BindsTo s fd ⟨[u],[]⟩ [(x,u)])
    (hsp:∀ H:Hp,Only H->SqL K H a (ns.map V.int)->sp [.ref a] H (fun v _=>v = .bl true) fun _ _ _=>False)
    (hCX:∀ H e s',CX [] H s₁ (fun _ _ _=>False) e s'->False) :
    codeAny (model P w) callerA (.call (.ref fa) ⟨[.ref a],[]⟩) (fun r s'=>r = .ok (.ret (.bool true))/\OldK s₁.heap s'.heap/\s'.os=s₁.os/\AllBare s'.gens) s₁:=by
  have rv:=adE hi;have lenV:=hi.length
  have core:∀ H:Hp,Only H->SqL K H a (ns.map V.int)->HOk P w H s₁.heap->(∀ b,H b≠none->b=a)->(H a≠none->K.lookup a=none) ->
      codeAny (model P w) callerA (.call (.ref fa) ⟨[.ref a],[]⟩) (fun r s'=>r = .ok (.ret (.bool true))/\OldK s₁.heap s'.heap/\s'.os=s₁.os/\AllBare s'.gens) s₁:=by
    intro H hO hS hok hA hK;have alP:∀ {b:Addr} {o:Obj},s₁.heap.get? b=some o->H b=none->(aeG s₁.heap H).get? b=some o:=fun e n=>apR e n
    have noA:∀ {b:Addr} {o:Obj} {es:Array DictEntry} {ep:Nat},s₁.heap.get? b=some o->o.data = .dict es ep->H b=none:=fun {b o es ep} e d=>by
      cases q:H b with
      | none=>rfl
      | some u =>
        have e':b=a:=hA b (by rw [q];simp);subst e';rw [ha] at e;cases e;have d':Data.seq vs.toArray _=Data.dict es ep:=d;cases d'
    have nsK:∀ {b:Addr} {m:Str->Option Value},s₁.heap.Ns b m->(aeG s₁.heap H).Ns b m:=fun {b m} ⟨o,es,ep,e,d,r⟩=>⟨o,es,ep,alP e (noA e d),d,r⟩
    have hKb:K.In (aeG s₁.heap H):=fun b o e=>alP (KX b o e) (by
      cases q:H b with
      | none=>rfl
      | some u =>
        have e':b=a:=hA b (by rw [q];simp);subst e';rw [hK (by rw [q];simp)] at e;cases e)
    have hM:Mod K mg (aeG s₁.heap H):=⟨hKb,nsK hns,⟨mb,nsK hb,hbb⟩,let ⟨mc,h1,h2⟩:=hlim;⟨mc,nsK h1,h2⟩⟩;have e0:acE P w K mg (aeG s₁.heap H) callerA [] s₁ H:=⟨rfl,hM,fun b o e=>avD e,xq (anN _ _),trivial,fun b hb=>absurd (show b∈([]:List Addr) from hb) (by simp),hok,.of_eq hg,.inl rfl⟩;refine codeAny_mono ((F _ hKb (nsK hns)).run callerA [] s₁ H ⟨[.ref a],[]⟩ [.ref a] [.ref a] _ _ hr e0 (hbind s₁ (.ref a)) (.cons rfl .nil) (hsp H hO hS)) fun r s' h=>?_;cases r with
    | error e=>exact (hCX H e s' h).elim
    | ok fl =>
      cases fl with
      | next=>exact False.elim h
      | brk=>exact False.elim h
      | cont=>exact False.elim h
      | ret u =>
        obtain ⟨v,H',os,bare,un,hok',r',q⟩:=h;have q':v = .bl true:=q;subst q';obtain rfl:u=Value.bool true:=r';refine ⟨rfl,OldK.of_keep fun b o e=>?_,os,bare⟩;cases q:H b with
        | none=>exact un.keep b o e q (by intro z;exact absurd (show b∈([]:List Addr) from z) (by simp)) (by simp)
        | some u =>
          rcases hO b with z | ⟨ob,xs,z⟩
          . rw [q] at z;cases z
          . have z2:=un.m7 b ob _ z;obtain ⟨e1,_⟩:=hok b _ z;obtain ⟨e2,_⟩:=hok' b _ z2;rw [e] at e1;cases e1;exact e2
  cases hk:K.lookup a with
  | some o =>
    have e:=KX a o hk;rw [ha] at e;cases e;refine core (fun _=>none) (fun _ => .inl rfl) (.inr ⟨_,vs.toArray,_,hk,rfl,rfl,rfl,by rw [bw,lenV];exact hl,by simpa using rv⟩) (fun b u z=>by have z':(none:Option HO)=some u:=z;cases z') (fun b z=>absurd rfl z) fun z=>absurd rfl z
  | none =>
    refine core (fun b=>if b=a then some (.lW { cls := .type "list",data := .seq vs.toArray } (.lst (ns.map V.int))) else none) (fun b=>?_) (.inl (.inr ⟨{ cls := .type "list",data := .seq vs.toArray },if_pos rfl⟩)) (fun b u z=>?_) (fun b z=>?_) fun _=>hk
    . by_cases hb:b=a
      . exact .inr ⟨_,_,if_pos hb⟩
      . exact .inl (if_neg hb)
    . by_cases hb:b=a
      . have z':=(if_pos hb).symm.trans z;cases z';subst hb;exact ⟨ha,by rw [dh];exact hl,vs,_,rv,ha⟩
      . have z':=(if_neg hb).symm.trans z;cases z'
    . by_cases hb:b=a
      . exact hb
      . exact absurd (if_neg hb) z
end
variable {n:Nat}
section
theorem awB {l:PySem.W.OpenLaw} {k:Nat} {q:Program} {loose:List Str} {XP:(Str->Option Value)->Heap->Prop} {YP:World->Heap->Prop} {d:DefRec} {K:Params->cu} {CX:World->CXT} {sp:World->Sp}
    (hn:l.most=some n) (hn2:n<=sizeLine) (hdf:d.params.defaults=[]) (hr:jH qt k callerA)
    (hY:∀ (w:World) (h:Heap),YP w h->(K w.params).In h)
    (F:∀ (w:World) (mg:Str->Option Value) (fa:Addr) (h:Heap),(K w.params).In h->h.Ns mainGlobals mg->mg d.name=some (.ref fa) ->
      ∃ fd:FuncData,(∀ (s:Shared) (u:Value),BindsTo s fd ⟨[u],[]⟩ [(x,u)]) /\
        ∀ base:Heap,(K w.params).In base->base.Ns mainGlobals mg->cM qt l.prog w (K w.params) mg base (CX w) k fa fd [x] (sp w))
    (hsp:∀ (w:World) (H:Hp) (a:Addr) (ns:List Int),ns.length<=n->Only H->SqL (K w.params) H a (ns.map V.int)->sp w [.ref a] H (fun v _=>v = .bl true) fun _ _ _=>False)
    (hCX:∀ (w:World) (H:Hp) (s:Shared) (e:Value) (s':Shared),CX w [] H s (fun _ _ _=>False) e s'->False) :
    PySem.W.WalkO q loose XP YP l.row.toRowW d [] (fun f vs=>PySem.call f vs):=by
  refine Att.agO hn hdf fun w s₀ s₁ mg mb fa o pm cd doc a vs ns G Y ho hd hcd hmg hobj hints hlen hg=>?_;have KX:=hY w _ Y;obtain ⟨fd,hb,hF⟩:=F w mg fa _ KX G.T.g hmg;exact aqD KX G.T.g G.T.b G.T.builtins G.T.nolimit hg hobj hints (jj hlen hn2) hr hF hb (fun H hO hS=>hsp w H a ns hlen hO hS) fun H e s'=>hCX w H s₁ e s'
end
variable {qual:Str}{st:Stmt}{H H':Hp}{xs:List V}
section
noncomputable def inClass (s:Stmt) (j:Nat):Stmt:=match s with
  | .ClassDef _ _ _ body _ _ _ _ _ _ _=>body.getD j (.Pass ⟨0,0,0,0⟩)
  | _ => .Pass ⟨0,0,0,0⟩
noncomputable def rW (s:Stmt):Arguments:=match s with
  | .FunctionDef _ a _ _ _ _ _ _ _ _=>a
  | _=>{ posonlyargs:=[],args:=[],vararg:=none,kwonlyargs:=[],kw_defaults:=[],kwarg:=none,defaults:=[] }
noncomputable def gU (s:Stmt):List Stmt:=match s with
  | .FunctionDef _ _ b _ _ _ _ _ _ _=>b
  | _=>[]
noncomputable def bW (s:Stmt):Scope:=match s with
  | .FunctionDef _ _ _ _ _ _ sc _ _ _=>sc
  | _=>{ kind := .function,names:=[],isGenerator:=false,isCoroutine:=false }
noncomputable abbrev CX0:CXT:=fun _ _ _ _ _ _=>False
structure yG (K:cu) (x qual:Str) (st:Stmt) (f:Addr) (fd:FuncData):Prop where
  ex:∃ (oc:Value) (od:Option Addr) (dV kV doc pm:Value) (an:Option Addr) (cdv ct:Value) (osl:Array (Option Value)),
    fd=qj x qual (rW st) (gU st) (bW st) dV kV doc pm an cdv ct/\K.lookup f=some ⟨oc,od,.func fd,osl⟩/\vm K cdv qual=true
  kp:jy K (.ref f)=true
variable {f:Addr}
section
variable {P:Program} {w:World} {K:cu} {mg:Str->Option Value} {base:Heap}
theorem yG.ok {N ps:List Str} {k:Nat} (F:yG K x qual st f fd) (S:bA N ps (bW st)) (len:∀ vs H Q E,sp vs H Q E->vs.length=ps.length)
    (hbody:∀ (cdv:Value) (A:Around) (outer:List Env) (s:Shared) (H:Hp) (vs:List V) (Q:VK) (E:XK),jH qt k (A.deeper (envOfC qual (bW st) s.heap.objs.size f cdv))->sp vs H Q E ->
      ∃ t,PSs (uZ qt CX0 P w K mg base N qual (bW st) f cdv A outer s H E).nox (gU st) t/\t { nx:=fun _ H'=>Q .non H',rt:=Q } (start N vs) H):cM qt P w K mg base CX0 (k+1) f fd ps sp:=by
  obtain ⟨oc,od,dV,kV,doc,pm,an,cdv,ct,osl,rfl,lk,hcd⟩:=F.ex;refine azU lk hcd S len fun A outer s H vs Q E hr hsp=>?_;obtain ⟨t,h,q⟩:=hbody cdv A outer s H vs Q E hr hsp;exact ⟨t,h.nox,q⟩
theorem ak4 {oc:Value} {od an:Option Addr} {osl:Array (Option Value)} {dV kV doc pm cdv ct:Value} (l:K.lookup f=some ⟨oc,od,.func (qj x qual (rW st) (gU st) (bW st) dV kV doc pm an cdv ct),osl⟩)
    (c:vm K cdv qual=true) (k:jy K (.ref f)=true):yG K x qual st f (qj x qual (rW st) (gU st) (bW st) dV kV doc pm an cdv ct):=⟨⟨oc,od,dV,kV,doc,pm,an,cdv,ct,osl,rfl,l,c⟩,k⟩
end
section
variable {X:Cx}
end
theorem ak5 {c A B:Prop} [Decidable c] (h1:c->A) (h2:¬ c->B):if c then A else B:=by
  by_cases h:c
  . rw [if_pos h];exact h1 h
  . rw [if_neg h];exact h2 h
noncomputable def Same (H H':Hp):Prop:=∀ b o,H b=some o->H' b=some o
theorem Same.refl (H:Hp):Same H H:=fun _ _ h=>h
theorem Same.trans {H1 H2:Hp} (a:Same H H1) (b:Same H1 H2):Same H H2:=fun c o h=>b c o (a c o h)
theorem Same.free (e:Same H H') {l:Addr} (h:H' l=ux):H l=ux:=by
  cases q:H l with
  | none=>rfl
  | some o =>
    rw [e l o q] at h;cases h
theorem Same.seq {K:cu} (e:Same H H') (h:SqL K H a xs):SqL K H' a xs:=by
  rcases h with (h | ⟨o,h⟩) | h
  . exact .inl (.inl (e _ _ h))
  . exact .inl (.inr ⟨o,e _ _ h⟩)
  . exact .inr h
section
variable {X:Cx}
end
section
variable {κ:Type} [DecidableEq κ]
end
end
variable {vs:List V}{p b:Addr}{o:HO}{u:Value}{e:Expr}{pins:List (Addr×Obj)}{s:Shared}{i:Nat}{Q:VK}{v:V}{pos:Pos}{r:R2}{op op':CmpOp}
section
inductive D where
  | non | bl (b:Bool) | int (i:Int) | str (x:Str) | tup (xs:List D) | ref (a:Addr) | ty (n:String)
noncomputable abbrev Fg:=cu
noncomputable abbrev agP (H:Hp) (a:Addr) (xs:List V):Prop:=H a=some (.tup xs)
theorem ak6 (h:H a=some (.tup xs)):agP H a xs:=h
mutual
inductive RD (K:Fg) (H:Hp):D->V->Prop where
  | non:RD K H .non .non
  | bl (b:Bool):RD K H (.bl b) (.bl b)
  | int (i:Int):RD K H (.int i) (.int i)
  | str (x:Str):RD K H (.str x) (.str x)
  | ty (n:String):RD K H (.ty n) (.ty n)
  | ref (a:Addr):RD K H (.ref a) (.ref a)
  | tup {a:Addr} {xs:List V} {ds:List D}:SqT K H a xs->cN K H ds xs->agP H a xs->RD K H (.tup ds) (.ref a)
inductive cN (K:Fg) (H:Hp):List D->List V->Prop where
  | nil:cN K H [] []
  | cons {d:D} {v:V} {ds:List D} {vs:List V}:RD K H d v->cN K H ds vs->cN K H (d :: ds) (v :: vs)
end
structure Ts (H H':Hp):Prop where
  tups:∀ a xs,H a=some (.tup xs)->H' a=some (.tup xs)
  m7:∀ a o u,H a=some (.lW o u)->H' a=some (.lW o u)
theorem Ts.refl (H:Hp):Ts H H:=⟨fun _ _ h=>h,fun _ _ _ h=>h⟩
theorem Ts.trans {H1 H2:Hp} (a:Ts H H1) (b:Ts H1 H2):Ts H H2:=⟨fun c xs h=>b.tups c xs (a.tups c xs h),fun c o u h=>b.m7 c o u (a.m7 c o u h)⟩
theorem Ts.same (s:Same H H'):Ts H H':=⟨fun a _ h=>s a _ h,fun a _ _ h=>s a _ h⟩
theorem Ts.rd (t:Ts H H') (h:Rd H a (.tup xs)):Rd H' a (.tup xs):=by
  rcases h with h | ⟨o,h⟩
  . exact .inl (t.tups _ _ h)
  . exact .inr ⟨o,t.m7 _ _ _ h⟩
theorem Ts.sqT {K:Fg} (t:Ts H H') (h:SqT K H a xs):SqT K H' a xs:=h.elim (fun q => .inl (t.rd q)) .inr
theorem agP.mono (t:Ts H H') (h:agP H a xs):agP H' a xs:=t.tups _ _ h
theorem bU (h:H p=none):Same H (upd H p o):=fun b u e=>by
  rw [aX (oO e h)];exact e
mutual
theorem RD.mono {K:Fg} {H H':Hp} (t:Ts H H'):∀ {d:D} {v:V},RD K H d v->RD K H' d v
  | _,_,.non => .non
  | _,_,.bl b => .bl b
  | _,_,.int i => .int i
  | _,_,.str x => .str x
  | _,_,.ty n => .ty n
  | _,_,.ref a => .ref a
  | _,_,.tup h r e => .tup (t.sqT h) (cN.mono t r) (e.mono t)
theorem cN.mono {K:Fg} {H H':Hp} (t:Ts H H'):∀ {ds:List D} {vs:List V},cN K H ds vs->cN K H' ds vs
  | _,_,.nil => .nil
  | _,_,.cons h r => .cons (RD.mono t h) (cN.mono t r)
end
section
variable {K:Fg} {H:Hp}
theorem cN.length:∀ {ds:List D} {vs:List V},cN K H ds vs->ds.length=vs.length
  | _,_,.nil=>rfl
  | _,_,.cons _ r=>congrArg (·+1) (cN.length r)
theorem cN.append:∀ {ds:List D} {vs:List V} {es:List D} {ws:List V},cN K H ds vs->cN K H es ws->cN K H (ds++es) (vs++ws)
  | _,_,_,_,.nil,s=>s
  | _,_,_,_,.cons h r,s => .cons h (cN.append r s)
theorem cN.get:∀ {ds:List D} {vs:List V} {i:Nat} {d:D},cN K H ds vs->ds[i]?=some d->∃ v,vs[i]?=some v/\RD K H d v
  | _,_,_,_,.nil,e=>by simp at e
  | _,_,0,_,.cons r _,e=>by simp at e;subst e;exact ⟨_,rfl,r⟩
  | _,_,i+1,d,.cons _ t,e=>by
    obtain ⟨u,h1,h2⟩:=cN.get (i:=i) (d:=d) t (by simpa using e);exact ⟨u,by simpa using h1,h2⟩
theorem cN.awC:∀ {ds:List D} {vs:List V} {i:Nat} {v:V},cN K H ds vs->vs[i]?=some v->∃ d,ds[i]?=some d/\RD K H d v
  | _,_,_,_,.nil,e=>by simp at e
  | _,_,0,_,.cons r _,e=>by simp at e;subst e;exact ⟨_,rfl,r⟩
  | _,_,i+1,d,.cons _ t,e=>by
    obtain ⟨u,h1,h2⟩:=cN.awC (i:=i) (v:=d) t (by simpa using e);exact ⟨u,by simpa using h1,h2⟩
theorem cN.set {d:D} {v:V} (r:RD K H d v):∀ {ds:List D} {vs:List V} (i:Nat),cN K H ds vs->cN K H (ds.set i d) (vs.set i v)
  | _,_,_,.nil => .nil
  | _,_,0,.cons _ t => .cons r t
  | _,_,i+1,.cons q t => .cons q (cN.set r i t)
theorem cN.drop:∀ {ds:List D} {vs:List V} (n:Nat),cN K H ds vs->cN K H (ds.drop n) (vs.drop n)
  | _,_,0,r=>r
  | _,_,_+1,.nil => .nil
  | _,_,n+1,.cons _ t=>cN.drop n t
theorem cN.take:∀ {ds:List D} {vs:List V} (n:Nat),cN K H ds vs->cN K H (ds.take n) (vs.take n)
  | _,_,0,_ => .nil
  | _,_,_+1,.nil => .nil
  | _,_,n+1,.cons r t => .cons r (cN.take n t)
theorem cN.ints (ns:List Int):cN K H (ns.map D.int) (ns.map V.int):=by
  induction ns with
  | nil=>exact .nil
  | cons n r ih=>exact .cons (.int n) ih
theorem cN.a5F {ds:List D} (r:cN K H ds vs):vs=[]↔ds=[]:=by
  cases r <;> simp
end
noncomputable abbrev DK:=Key ⊕ List Key
inductive GO where
  | lst (ds:List D) | rol (ds:List D) | bQ (t:Bool) (kvs:List (DK×D)) | ins (C:Addr) (fs:List (Str×D)) | exn (C:Addr) | rdc (o:Obj) (t:Bool) (kvs:List (DK×D)) | tpl (ds:List D)
noncomputable abbrev Gp:=Addr->Option GO
noncomputable def aL (G:Gp) (a:Addr) (o:GO):Gp:=fun b=>if b=a then some o else G b
variable {G:Gp}
theorem aH {o:GO}:aL G a o a=some o:=by unfold aL;rw [if_pos rfl]
theorem bD {o:GO} (h:b≠a):aL G a o b=G b:=by unfold aL;rw [if_neg h]
theorem dU {o u:GO} (h:G b=some u) (n:G a=none):aL G a o b=some u:=by
  rw [bD];exact h;intro e;subst e;rw [h] at n;cases n
noncomputable def Le (G G':Gp):Prop:=∀ a o,G a=some o->G' a=some o
theorem Le.refl (G:Gp):Le G G:=fun _ _ h=>h
theorem Le.trans {G1 G2:Gp} (a:Le G G1) (b:Le G1 G2):Le G G2:=fun c o h=>b c o (a c o h)
theorem Le.new {o:GO} (n:G a=none):Le G (aL G a o):=fun _ _ h=>dU h n
variable {G':Gp}
theorem Le.free (l:Le G G') (h:G' a=none):G a=none:=by
  cases q:G a with
  | none=>rfl
  | some o=>have:=l a o q;rw [h] at this;cases this
noncomputable def kD:Key->D
  | .inl i => .int i
  | .inr x => .str x
noncomputable def dkD:DK->D
  | .inl k=>kD k
  | .inr ks => .tup (ks.map kD)
inductive Two {α β:Type} (P:α->β->Prop):List α->List β->Prop where
  | nil:Two P [] []
  | cons {a:α} {b:β} {as:List α} {bs:List β}:P a b->Two P as bs->Two P (a :: as) (b :: bs)
theorem Two.imp {α β:Type} {P Q:α->β->Prop} (f:∀ a b,P a b->Q a b):∀ {as:List α} {bs:List β},Two P as bs->Two Q as bs
  | _,_,.nil => .nil
  | _,_,.cons h r => .cons (f _ _ h) (Two.imp f r)
theorem Two.length {α β:Type} {P:α->β->Prop}:∀ {as:List α} {bs:List β},Two P as bs->as.length=bs.length
  | _,_,.nil=>rfl
  | _,_,.cons _ r=>congrArg (·+1) (Two.length r)
noncomputable def a2Y (C a:Addr) (h:Heap):Prop:=∃ o vs,h.get? a=some o/\o.cls = .ref C/\o.data = .fields vs
noncomputable def OR (K:Fg) (H:Hp) (a:Addr):GO->Prop
  | .lst ds=>∃ xs,H a=some (.lst xs)/\cN K H ds xs
  | .rol ds=>∃ xs,SqL K H a xs/\cN K H ds xs
  | .bQ t kvs=>(t=false/\∃ xs:List (Key×V),H a=some (.dK xs)/\Two (fun p q=>p.1 = .inl q.1/\RD K H p.2 q.2) kvs xs) ∨
      (t=true/\∃ xs:List (List Key×V),H a=some (.dT xs)/\Two (fun p q=>p.1 = .inr q.1/\RD K H p.2 q.2) kvs xs)
  | .ins C fs=>∃ (dx:Addr) (vs:List (Str×V)),H a=some (.ins C dx vs)/\Two (fun p q=>p.1=q.1/\RD K H p.2 q.2) fs vs
  | .rdc o t kvs=>(t=false/\∃ xs:List (Key×V),H a=some (.lW o (.dK xs))/\Two (fun p q=>p.1 = .inl q.1/\RD K H p.2 q.2) kvs xs) ∨
      (t=true/\∃ xs:List (List Key×V),H a=some (.lW o (.dT xs))/\Two (fun p q=>p.1 = .inr q.1/\RD K H p.2 q.2) kvs xs)
  | .tpl ds=>∃ xs,SqT K H a xs/\cN K H ds xs
  | .exn C=>∃ o vs,H a=some (.lW o (.ext (a2Y C a)))/\o.data = .fields vs/\vs[2]?=some .none
noncomputable def HR (K:Fg) (H:Hp) (G:Gp):Prop:=∀ a o,G a=some o->OR K H a o
theorem OR.keep {K:Fg} {o:GO} (t:Ts H H') (h:OR K H a o) (k:∀ u,H a=some u->H' a=some u):OR K H' a o:=by
  cases o with
  | lst ds=>obtain ⟨xs,e,r⟩:=h;exact ⟨xs,k _ e,r.mono t⟩
  | rol ds =>
    obtain ⟨xs,e,r⟩:=h;refine ⟨xs,?_,r.mono t⟩;rcases e with (e | ⟨o,e⟩) | e
    . exact .inl (.inl (k _ e))
    . exact .inl (.inr ⟨o,k _ e⟩)
    . exact .inr e
  | bQ b kvs =>
    rcases h with ⟨z,xs,e,r⟩ | ⟨z,xs,e,r⟩
    . exact .inl ⟨z,xs,k _ e,r.imp fun _ _ q=>⟨q.1,q.2.mono t⟩⟩
    . exact .inr ⟨z,xs,k _ e,r.imp fun _ _ q=>⟨q.1,q.2.mono t⟩⟩
  | ins C fs=>obtain ⟨dx,vs,e,r⟩:=h;exact ⟨dx,vs,k _ e,r.imp fun _ _ q=>⟨q.1,q.2.mono t⟩⟩
  | rdc ob b kvs =>
    rcases h with ⟨z,xs,e,r⟩ | ⟨z,xs,e,r⟩
    . exact .inl ⟨z,xs,k _ e,r.imp fun _ _ q=>⟨q.1,q.2.mono t⟩⟩
    . exact .inr ⟨z,xs,k _ e,r.imp fun _ _ q=>⟨q.1,q.2.mono t⟩⟩
  | exn C=>obtain ⟨o,vs,e,r⟩:=h;exact ⟨o,vs,k _ e,r⟩
  | tpl ds=>obtain ⟨xs,e,r⟩:=h;exact ⟨xs,t.sqT e,r.mono t⟩
theorem HR.same {K:Fg} {H H':Hp} {G:Gp} (h:HR K H G) (s:Same H H'):HR K H' G:=fun a o e=>(h a o e).keep (.same s) fun u q=>s a u q
theorem HR.le {K:Fg} (h:HR K H G') (l:Le G G'):HR K H G:=fun a o e=>h a o (l a o e)
theorem HR.put {K:Fg} {u:GO} (h:HR K H G) (n:H p=none) (new:OR K (upd H p o) p u):HR K (upd H p o) (aL G p u):=fun a v e=>by
  by_cases q:a=p
  . subst q;rw [aH] at e;cases e;exact new
  . rw [bD q] at e;exact (h a v e).keep (.same (bU n)) fun w z=>bU n a w z
theorem HR.turn {K:Fg} {u:GO} (h:HR K H G) (t:Ts H (upd H p o)) (new:OR K (upd H p o) p u):HR K (upd H p o) (aL G p u):=fun a v e=>by
  by_cases q:a=p
  . subst q;rw [aH] at e;cases e;exact new
  . rw [bD q] at e;exact (h a v e).keep t fun w z=>by rw [aX q];exact z
theorem Ts.turn {u:HO} (e:H p=some u) (h1:∀ xs,u ≠ .tup xs) (h2:∀ ob w,u ≠ .lW ob w):Ts H (upd H p o):=by
  refine ⟨fun a xs q=>?_,fun a ob w q=>?_⟩
  . rw [aX];exact q;intro z;subst z;rw [e] at q;exact h1 xs (gk.inj q)
  . rw [aX];exact q;intro z;subst z;rw [e] at q;exact h2 ob w (gk.inj q)
noncomputable abbrev aO:=List (Option D)
noncomputable abbrev j4:=D->Gp->Prop
noncomputable abbrev cL:=aO->Gp->j4->Prop
noncomputable abbrev TT3:=aO->Gp->(Bool->Gp->Prop)->Prop
noncomputable abbrev yH:=aO->Gp->(List D->Gp->Prop)->Prop
noncomputable def at3:aO->Nat->Option D
  | [],_=>none
  | x :: _,0=>x
  | _ :: r,n+1=>at3 r n
noncomputable def a5I:aO->Nat->D->aO
  | [],_,_=>[]
  | _ :: r,0,d=>some d :: r
  | x :: r,n+1,d=>x :: a5I r n d
inductive SR (K:Fg) (H:Hp):aO->St->Prop where
  | nil:SR K H [] []
  | none {ρ:aO} {σ:St} {v:Option V}:SR K H ρ σ->SR K H (ux :: ρ) (v :: σ)
  | some {ρ:aO} {σ:St} {d:D} {v:V}:RD K H d v->SR K H ρ σ->SR K H (gk d :: ρ) (gk v :: σ)
theorem SR.mono {K:Fg} {H H':Hp} (t:Ts H H'):∀ {ρ:aO} {σ:St},SR K H ρ σ->SR K H' ρ σ
  | _,_,.nil => .nil
  | _,_,.none r => .none (SR.mono t r)
  | _,_,.some h r => .some (h.mono t) (SR.mono t r)
theorem SR.get {K:Fg} {H:Hp}:∀ {ρ:aO} {σ:St} {i:Nat} {d:D},SR K H ρ σ->at3 ρ i=gk d->∃ v,σ[i]?=gk (gk v)/\RD K H d v
  | _,_,_,_,.nil,e=>by simp [at3] at e
  | _,_,0,_,.none _,e=>by simp [at3] at e
  | _,_,0,_,.some h _,e=>by simp [at3] at e;subst e;exact ⟨_,rfl,h⟩
  | _,_,i+1,_,.none r,e=>by
    obtain ⟨v,h1,h2⟩:=SR.get (i:=i) r (by simpa [at3] using e);exact ⟨v,by simpa using h1,h2⟩
  | _,_,i+1,_,.some _ r,e=>by
    obtain ⟨v,h1,h2⟩:=SR.get (i:=i) r (by simpa [at3] using e);exact ⟨v,by simpa using h1,h2⟩
theorem SR.set {K:Fg} {H:Hp} {d:D} {v:V} (q:RD K H d v):∀ {ρ:aO} {σ:St} (i:Nat),SR K H ρ σ->SR K H (a5I ρ i d) (σ.set i (gk v))
  | _,_,_,.nil => .nil
  | _,_,0,.none r => .some q r
  | _,_,0,.some _ r => .some q r
  | _,_,i+1,.none r => .none (SR.set q i r)
  | _,_,i+1,.some h r => .some h (SR.set q i r)
theorem SR.len {K:Fg} {H:Hp}:∀ {ρ:aO} {σ:St},SR K H ρ σ->ρ.length=σ.length
  | _,_,.nil=>rfl
  | _,_,.none r=>congrArg (·+1) (SR.len r)
  | _,_,.some _ r=>congrArg (·+1) (SR.len r)
noncomputable def aeT (n:Nat) (ds:List D):aO:=ds.map gk++uh (n - ds.length) ux
theorem SR.nones {K:Fg} {H:Hp}:∀ n:Nat,SR K H (uh n ux) (uh n ux)
  | 0 => .nil
  | n+1 => .none (SR.nones n)
theorem SR.entry {K:Fg} {H:Hp} {k:Nat}:∀ {ds:List D} {vs:List V},cN K H ds vs->SR K H (ds.map gk++uh k ux) (vs.map gk++uh k ux)
  | _,_,.nil=>SR.nones k
  | _,_,.cons h r => .some h (SR.entry r)
noncomputable def upE (K:Fg) (t:cL):TE:=fun σ H Q=>∃ ρ G R,SR K H ρ σ/\HR K H G/\t ρ G R/\∀ v H' d G',Ts H H'->RD K H' d v->HR K H' G'->R d G'->Q v H'
noncomputable def upT (K:Fg) (t:TT3):TT:=fun σ H Q=>∃ ρ G R,SR K H ρ σ/\HR K H G/\t ρ G R/\∀ b H' G',Ts H H'->HR K H' G'->R b G'->Q b H'
noncomputable def upA (K:Fg) (t:yH):TA:=fun σ H Q=>∃ ρ G R,SR K H ρ σ/\HR K H G/\t ρ G R/\∀ vs H' ds G',Ts H H'->cN K H' ds vs->HR K H' G'->R ds G'->Q vs H'
noncomputable abbrev cR (X:Cx) (e:Expr) (t:cL):Prop:=PE X e (upE X.K t)
noncomputable abbrev PT3 (X:Cx) (e:Expr) (t:TT3):Prop:=PT X e (upT X.K t)
noncomputable abbrev PW3 (X:Cx) (e:Expr) (t:TT3):Prop:=PW X e (upT X.K t)
noncomputable abbrev PA3 (X:Cx) (es:List Expr) (t:yH):Prop:=PA X es (upA X.K t)
structure fX where
  nx:aO->Gp->Prop
  rt:j4
  bk:aO->Gp->Prop:=fun _ _=>False
  ct:aO->Gp->Prop:=fun _ _=>False
noncomputable abbrev bJ:=fX->aO->Gp->Prop
structure UpD (K:Fg) (E:fX) (F:Ends):Prop where
  nx:∀ ρ G σ H',SR K H' ρ σ->HR K H' G->E.nx ρ G->F.nx σ H'
  rt:∀ d G v H',RD K H' d v->HR K H' G->E.rt d G->F.rt v H'
  bk:∀ ρ G σ H',SR K H' ρ σ->HR K H' G->E.bk ρ G->F.bk σ H'
  ct:∀ ρ G σ H',SR K H' ρ σ->HR K H' G->E.ct ρ G->F.ct σ H'
noncomputable def upS (K:Fg) (t:bJ):TS:=fun F σ H=>∃ ρ G E,SR K H ρ σ/\HR K H G/\t E ρ G/\UpD K E F
noncomputable abbrev PS3 (X:Cx) (st:Stmt) (t:bJ):Prop:=PS X st (upS X.K t)
noncomputable abbrev a6Y (X:Cx) (st:List Stmt) (t:bJ):Prop:=PSs X st (upS X.K t)
section
variable {X:Cx}
theorem PE.imp {t t':TE} (h:PE X e t) (k:∀ σ H Q,t' σ H Q->t σ H Q):PE X e t':=fun pins s σ H Q I q=>h pins s σ H Q I (k _ _ _ q)
theorem PT.imp {t t':TT} (h:PT X e t) (k:∀ σ H Q,t' σ H Q->t σ H Q):PT X e t':=fun pins s σ H Q I q=>h pins s σ H Q I (k _ _ _ q)
theorem PW.imp {t t':TT} (h:PW X e t) (k:∀ σ H Q,t' σ H Q->t σ H Q):PW X e t':=fun wh pins s σ H Q I q=>h wh pins s σ H Q I (k _ _ _ q)
theorem PA.imp {e:List Expr} {t t':TA} (h:PA X e t) (k:∀ σ H Q,t' σ H Q->t σ H Q):PA X e t':=fun p pins s σ H Q I q=>h p pins s σ H Q I (k _ _ _ q)
theorem PS.imp {e:Stmt} {t t':TS} (h:PS X e t) (k:∀ F σ H,t' F σ H->t F σ H):PS X e t':=fun pins s σ H F I q=>h pins s σ H F I (k _ _ _ q)
noncomputable def KF (K:Fg) (H:Hp):Prop:=∀ b o,K.lookup b=some o->H b=none
theorem wN {σ:St} (I:Inv X pins σ H s):KF X.K H:=fun b o e=>(I.bs b o (I.ok.mod.kin b o e)).2
theorem PE.kf {t:TE} (h:PE X e t):PE X e (fun σ H Q=>t σ H fun v H'=>KF X.K H'->Q v H'):=fun pins s σ H Q I q =>
  f9 (h pins s σ H _ I q) fun _ _ ⟨v,H',I',r,q'⟩=>⟨v,H',I',r,q' (wN I')⟩
theorem PSs.imp {e:List Stmt} {t t':TS} (h:PSs X e t) (k:∀ F σ H,t' F σ H->t F σ H):PSs X e t':=fun pins s σ H F I q=>h pins s σ H F I (k _ _ _ q)
end
theorem nQ {K:Fg} (g:HR K H G) (n:H p=none) (k:KF K (upd H p o)):G p=none:=by
  have kn:K.lookup p=none:=by
    cases q:K.lookup p with
    | none=>rfl
    | some u=>have:=k p u q;rw [aJ] at this;cases this
  cases q:G p with
  | none=>rfl
  | some u =>
    have z:=g p u q;cases u with
    | lst ds=>obtain ⟨xs,e,_⟩:=z;rw [n] at e;cases e
    | rol ds =>
      obtain ⟨xs,e,_⟩:=z;rcases e with (e | ⟨o,e⟩) | ⟨o,_,_,e,_⟩
      . rw [n] at e;cases e
      . rw [n] at e;cases e
      . rw [kn] at e;cases e
    | bQ tt kvs =>
      rcases z with ⟨_,xs,e,_⟩ | ⟨_,xs,e,_⟩
      . rw [n] at e;cases e
      . rw [n] at e;cases e
    | rdc ob tt kvs =>
      rcases z with ⟨_,xs,e,_⟩ | ⟨_,xs,e,_⟩
      . rw [n] at e;cases e
      . rw [n] at e;cases e
    | ins C fs=>obtain ⟨dx,vs,e,_⟩:=z;rw [n] at e;cases e
    | exn C=>obtain ⟨o,vs,e,_⟩:=z;rw [n] at e;cases e
    | tpl ds =>
      obtain ⟨xs,e,_⟩:=z;rcases e with (e | ⟨o,e⟩) | ⟨o,_,_,e,_⟩
      . rw [n] at e;cases e
      . rw [n] at e;cases e
      . rw [kn] at e;cases e
variable {d:D}
section
variable {X:Cx} {a b c:Expr} {ta tb tc:cL} {pos:Pos}
noncomputable def aB (i:Nat):cL:=fun ρ G R=>match at3 ρ i with
  | some d=>R d G
  | none=>False
noncomputable def bC (d:D):cL:=fun _ G R=>R d G
theorem aCC {K:Fg} {σ:St} (h:upE K (aB i) σ H Q):aGY i σ H Q:=by
  obtain ⟨ρ,G,R,s,g,t,k⟩:=h;unfold aB at t;split at t
  . rename_i d e;obtain ⟨v,h1,h2⟩:=s.get e;exact ⟨v,h1,k v H d G (.refl H) h2 g t⟩
  . exact t.elim
theorem ao4 {K:Fg} (r:∀ H,RD K H d v) {σ:St} (h:upE K (bC d) σ H Q):tC v σ H Q:=by
  obtain ⟨ρ,G,R,s,g,t,k⟩:=h;exact k v H d G (.refl H) (r H) g t
theorem aI1 (i:Nat) (hN:X.N[i]?=some x:=by rfl) (hv:Vis X.env.scope x:=by first | exact Or.inl rfl | exact Or.inr (Or.inl rfl) | exact Or.inr (Or.inr rfl)) (hd:(x == ("__debug__" : Str))=false:=by decide)
    (hcd:(x == ("__classdict__" : Str))=false:=by decide):cR X (.Name x pos) (aB i):=PE.imp (aB6 hN hv hd hcd) fun _ _ _ h=>aCC h
theorem aI2 {i j pos}:cR X (.Constant (.int i) j pos) (bC (.int i)):=PE.imp aB7 fun _ _ _ h=>ao4 (fun _ => .int i) h
theorem aMJ {b j pos}:cR X (.Constant (.bool b) j pos) (bC (.bl b)):=PE.imp aGZ fun _ _ _ h=>ao4 (fun _ => .bl b) h
theorem aI3 {j pos}:cR X (.Constant .none j pos) (bC .non):=PE.imp aB8 fun _ _ _ h=>ao4 (fun _ => .non) h
theorem aI4 {x j pos}:cR X (.Constant (.str x) j pos) (bC (.str x)):=PE.imp aB9 fun _ _ _ h=>ao4 (fun _ => .str x) h
theorem aqE (hg:Gl X x) (hm:X.mg x=some u) (r:RelV v u) (rd:∀ H,RD X.K H d v) (hd:(x == ("__debug__" : Str))=false:=by decide):cR X (.Name x pos) (bC d) :=
  PE.imp (avG hg hm r hd) fun _ _ _ h=>ao4 rd h
theorem aCD {n:String} (hg:Gl X x) (hm:X.mg x=none) (hv:bootBuiltins x=some (.type n)) (hn:x ≠ "__name__" := by decide) (hd:(x == ("__debug__" : Str))=false:=by decide):cR X (.Name x pos) (bC (.ty n)) :=
  PE.imp (avH hg hm hv (v := .ty n) rfl hn hd) fun _ _ _ h=>ao4 (fun _ => .ty n) h
noncomputable abbrev R3:=D->D->Gp->j4->Prop
noncomputable def OpI (K:Fg) (r:R2) (r3:R3):Prop:=∀ (H:Hp) (x y:D) (vx vy:V) (G:Gp) (R:j4) (Q:VK),RD K H x vx->RD K H y vy->HR K H G->r3 x y G R->(∀ v H' d G',Ts H H'->RD K H' d v->HR K H' G'->R d G'->Q v H')->r vx vy H fun v H'=>KF K H'->Q v H'
noncomputable def aa1 (X:Cx) (f:Value->Value->Sem Value) (r3:R3):Prop:=∃ r,wK X f r/\OpI X.K r r3
noncomputable def OpC (K:Fg) (r:R2) (r3:R3):Prop:=∀ (H:Hp) (x y:D) (vx vy:V) (G:Gp) (R:j4) (Q:VK),RD K H x vx->RD K H y vy->HR K H G->r3 x y G R->(∀ v H' d G',Ts H H'->RD K H' d v->HR K H' G'->R d G'->Q v H')->r vx vy H Q
noncomputable def rA (X:Cx) (f:Value->Value->Sem Value) (r3:R3):Prop:=∃ r,wK X f r/\OpC X.K r r3
noncomputable def aG (r:R3) (ta tb:cL):cL:=fun ρ G R=>ta ρ G fun x G1=>tb ρ G1 fun y G2=>r x y G2 R
variable {r3:R3}
theorem aI5 {K:Fg} (o:OpI K r r3) {σ:St} (h:upE K (aG r3 ta tb) σ H Q):tOp r (upE K ta) (upE K tb) σ H fun v H'=>KF K H'->Q v H':=by
  obtain ⟨ρ,G,R,s,g,t,k⟩:=h;refine ⟨ρ,G,_,s,g,t,fun vx H1 x G1 t1 rx g1 t'=>?_⟩;refine ⟨ρ,G1,_,s.mono t1,g1,t',fun vy H2 y G2 t2 ry g2 t''=>?_⟩;exact o H2 x y vx vy G2 R Q (rx.mono t2) ry g2 t'' fun v H' d G' t3=>k v H' d G' ((t1.trans t2).trans t3)
theorem ak7 {K:Fg} (o:OpC K r r3) {σ:St} (h:upE K (aG r3 ta tb) σ H Q):tOp r (upE K ta) (upE K tb) σ H Q:=by
  obtain ⟨ρ,G,R,s,g,t,k⟩:=h;refine ⟨ρ,G,_,s,g,t,fun vx H1 x G1 t1 rx g1 t'=>?_⟩;refine ⟨ρ,G1,_,s.mono t1,g1,t',fun vy H2 y G2 t2 ry g2 t''=>?_⟩;exact o H2 x y vx vy G2 R Q (rx.mono t2) ry g2 t'' fun v H' d G' t3=>k v H' d G' ((t1.trans t2).trans t3)
theorem aMK {op:Operator} (o:aa1 X (binaryOp op) r3) (ha:cR X a ta) (hb:cR X b tb):cR X (.BinOp a op b pos) (aG r3 ta tb):=by
  obtain ⟨r,o1,o2⟩:=o;exact PE.imp (PE.kf (aHD o1 ha hb)) fun _ _ _ h=>aI5 o2 h
theorem aqF (o:rA X (compareOp op) r3) (ha:cR X a ta) (hb:cR X b tb) (hm:behindInMarks op b=false):cR X (.Compare a [op] [b] pos) (aG r3 ta tb):=by
  obtain ⟨r,o1,o2⟩:=o;exact PE.imp (avR o1 ha hb hm) fun _ _ _ h=>ak7 o2 h
noncomputable def bB (t:cL):TT3:=fun ρ G R=>t ρ G fun x G1=>match x with
  | .bl k=>R k G1
  | _=>False
theorem aeU {K:Fg} {t:TE} {t3:cL} (f:∀ σ H Q,upE K t3 σ H Q->t σ H Q) {σ:St} {Q:Bool->Hp->Prop} (h:upT K (bB t3) σ H Q):aq0 t σ H Q:=by
  obtain ⟨ρ,G,R,s,g,u,k⟩:=h;refine f _ _ _ ⟨ρ,G,_,s,g,u,fun v H' d G' t1 r g1 q=>?_⟩;cases r with
  | bl b=>exact ⟨b,rfl,k b H' G' t1 g1 q⟩
  | _=>exact q.elim
theorem alR (o:rA X (compareOp op) r3) (ha:cR X a ta) (hb:cR X b tb) (hm:behindInMarks op b=false):PT3 X (.Compare a [op] [b] pos) (bB (aG r3 ta tb)):=by
  obtain ⟨r,o1,o2⟩:=o;exact PT.imp (avS o1 ha hb hm) fun _ _ _ h=>aeU (fun _ _ _=>ak7 o2) h
theorem aI6 {t:cL} (h:cR X e t) (he:∀ whole,isTrue e X.env whole=(do let v ← whole;standAt e.pos;holding [v] (truthy v)):=by intro _;rfl):PT3 X e (bB t) :=
  PT.imp (aBA h he) fun _ _ _ h=>aeU (fun _ _ _ q=>q) h
noncomputable def v8 (r r':R3) (ta tb tc:cL):cL:=fun ρ G R=>ta ρ G fun x G1=>tb ρ G1 fun y G2=>r x y G2 fun z G3=>match z with
  | .bl true=>tc ρ G3 fun w G4=>r' y w G4 R
  | .bl false=>R (.bl false) G3
  | _=>False
variable {r3':R3}
theorem agR {K:Fg} {r':R2} (o:OpC K r r3) (o':OpC K r' r3') {σ:St} (h:upE K (v8 r3 r3' ta tb tc) σ H Q):ajR r r' (upE K ta) (upE K tb) (upE K tc) σ H Q:=by
  obtain ⟨ρ,G,R,s,g,t,k⟩:=h;refine ⟨ρ,G,_,s,g,t,fun vx H1 x G1 t1 rx g1 t'=>?_⟩;refine ⟨ρ,G1,_,s.mono t1,g1,t',fun vy H2 y G2 t2 ry g2 t''=>?_⟩;refine o H2 x y vx vy G2 _ _ (rx.mono t2) ry g2 t'' fun v H3 d G3 t3 rd g3 q=>?_;cases rd with
  | bl b =>
    refine ⟨b,rfl,?_⟩;cases b with
    | true =>
      rw [if_pos rfl];refine ⟨ρ,G3,_,s.mono ((t1.trans t2).trans t3),g3,q,fun vw H4 w G4 t4 rw' g4 q'=>?_⟩;exact o' H4 y w vy vw G4 R Q (ry.mono (t3.trans t4)) rw' g4 q' fun v H' d G' t5=>k v H' d G' (((t1.trans t2).trans t3).trans (t4.trans t5))
    | false =>
      rw [if_neg jm];exact k _ H3 _ G3 ((t1.trans t2).trans t3) (.bl false) g3 q
  | _=>exact q.elim
theorem awD (o:rA X (compareOp op) r3) (o':rA X (compareOp op') r3') (ha:cR X a ta) (hb:cR X b tb) (hc:cR X c tc)
    (hm:lastMarks [op,op'] [b,c]=false:=by with_unfolding_all rfl):cR X (.Compare a [op,op'] [b,c] pos) (v8 r3 r3' ta tb tc):=by
  obtain ⟨r,o1,o2⟩:=o;obtain ⟨r',o1',o2'⟩:=o';exact PE.imp (aq1 o1 o1' ha hb hc hm) fun _ _ _ h=>agR o2 o2' h
theorem awE (o:rA X (compareOp op) r3) (o':rA X (compareOp op') r3') (ha:cR X a ta) (hb:cR X b tb) (hc:cR X c tc)
    (hm:lastMarks [op,op'] [b,c]=false:=by with_unfolding_all rfl):PT3 X (.Compare a [op,op'] [b,c] pos) (bB (v8 r3 r3' ta tb tc)):=by
  obtain ⟨r,o1,o2⟩:=o;obtain ⟨r',o1',o2'⟩:=o';exact PT.imp (aq2 o1 o1' ha hb hc hm) fun _ _ _ h=>aeU (fun _ _ _=>agR o2 o2') h
variable {sa sb:TT3} {rest:List Expr}
noncomputable def adH (t u:TT3):TT3:=fun ρ G R=>t ρ G fun c G1=>if c=true then u ρ G1 R else R false G1
noncomputable def aa2 (t u:TT3):TT3:=fun ρ G R=>t ρ G fun c G1=>if c=true then R true G1 else u ρ G1 R
noncomputable def wO (t:TT3):TT3:=fun ρ G R=>t ρ G fun c G1=>R (!c) G1
theorem aCE {K:Fg} {σ:St} {Q:Bool->Hp->Prop} (h:upT K (adH sa sb) σ H Q):aH0 (upT K sa) (upT K sb) σ H Q:=by
  obtain ⟨ρ,G,R,s,g,t,k⟩:=h;refine ⟨ρ,G,_,s,g,t,fun c H1 G1 t1 g1 q=>?_⟩;cases c with
  | true=>exact ⟨ρ,G1,R,s.mono t1,g1,q,fun b H' G' t2=>k b H' G' (t1.trans t2)⟩
  | false=>exact k false H1 G1 t1 g1 q
theorem aI7 {K:Fg} {σ:St} {Q:Bool->Hp->Prop} (h:upT K (aa2 sa sb) σ H Q):tOr (upT K sa) (upT K sb) σ H Q:=by
  obtain ⟨ρ,G,R,s,g,t,k⟩:=h;refine ⟨ρ,G,_,s,g,t,fun c H1 G1 t1 g1 q=>?_⟩;cases c with
  | false=>exact ⟨ρ,G1,R,s.mono t1,g1,q,fun b H' G' t2=>k b H' G' (t1.trans t2)⟩
  | true=>exact k true H1 G1 t1 g1 q
theorem aCF (ha:PT3 X a sa):PW3 X (.BoolOp .And [a] pos) sa:=avI ha
theorem aI8 (ha:PT3 X a sa):PW3 X (.BoolOp .Or [a] pos) sa:=aBB ha
theorem aI9 (ha:PT3 X a sa) (hb:PW3 X (.BoolOp .And (b :: rest) pos) sb):PW3 X (.BoolOp .And (a :: b :: rest) pos) (adH sa sb):=PW.imp (aBC ha hb) fun _ _ _ h=>aCE h
theorem aML (ha:PT3 X a sa) (hb:PW3 X (.BoolOp .Or (b :: rest) pos) sb):PW3 X (.BoolOp .Or (a :: b :: rest) pos) (aa2 sa sb):=PW.imp (aH1 ha hb) fun _ _ _ h=>aI7 h
theorem aIA (ha:PT3 X a sa):PT3 X (.UnaryOp .Not a pos) (wO sa):=PT.imp (aBD ha) fun σ H Q h=>by
  obtain ⟨ρ,G,R,s,g,t,k⟩:=h;exact ⟨ρ,G,_,s,g,t,fun c H1 G1 t1 g1 q=>k (!c) H1 G1 t1 g1 q⟩
noncomputable def a3R (ta tb:cL):cL:=fun ρ G R=>ta ρ G fun x G1=>match x with
  | .bl true=>tb ρ G1 R
  | .bl false=>R (.bl false) G1
  | _=>False
noncomputable def azZ (ta tb:cL):cL:=fun ρ G R=>ta ρ G fun x G1=>match x with
  | .bl true=>R (.bl true) G1
  | .bl false=>tb ρ G1 R
  | _=>False
noncomputable def aeV (ta:cL):cL:=fun ρ G R=>ta ρ G fun x G1=>match x with
  | .bl c=>R (.bl (!c)) G1
  | _=>False
theorem aA0 {op} (h:cR X a ta):cR X (.BoolOp op [a] pos) ta:=aBE h
theorem aIB (ha:cR X a ta) (hb:cR X (.BoolOp .And (b :: rest) pos) tb):cR X (.BoolOp .And (a :: b :: rest) pos) (a3R ta tb):=PE.imp (aBF ha hb) fun σ H Q h=>by
  obtain ⟨ρ,G,R,s,g,t,k⟩:=h;refine ⟨ρ,G,_,s,g,t,fun v H1 x G1 t1 r g1 q=>?_⟩;cases r with
  | bl c =>
    refine ⟨c,rfl,?_⟩;cases c with
    | true=>exact ⟨ρ,G1,R,s.mono t1,g1,q,fun b H' d G' t2=>k b H' d G' (t1.trans t2)⟩
    | false=>exact k _ H1 _ G1 t1 (.bl false) g1 q
  | _=>exact q.elim
theorem aMM (ha:cR X a ta) (hb:cR X (.BoolOp .Or (b :: rest) pos) tb):cR X (.BoolOp .Or (a :: b :: rest) pos) (azZ ta tb):=PE.imp (aH4 ha hb) fun σ H Q h=>by
  obtain ⟨ρ,G,R,s,g,t,k⟩:=h;refine ⟨ρ,G,_,s,g,t,fun v H1 x G1 t1 r g1 q=>?_⟩;cases r with
  | bl c =>
    refine ⟨c,rfl,?_⟩;cases c with
    | false=>exact ⟨ρ,G1,R,s.mono t1,g1,q,fun b H' d G' t2=>k b H' d G' (t1.trans t2)⟩
    | true=>exact k _ H1 _ G1 t1 (.bl true) g1 q
  | _=>exact q.elim
theorem aIC (ha:cR X a ta):cR X (.UnaryOp .Not a pos) (aeV ta):=PE.imp (aBG ha) fun σ H Q h=>by
  obtain ⟨ρ,G,R,s,g,t,k⟩:=h;refine ⟨ρ,G,_,s,g,t,fun v H1 x G1 t1 r g1 q=>?_⟩;cases r with
  | bl c=>exact ⟨c,rfl,k _ H1 _ G1 t1 (.bl _) g1 q⟩
  | _=>exact q.elim
end
section
variable {X:Cx} {e:Expr} {es:List Expr} {te:cL} {t:yH} {pos:Pos}
noncomputable def aD:yH:=fun _ G R=>R [] G
noncomputable def aA (ta:cL) (tr:yH):yH:=fun ρ G R=>ta ρ G fun x G1=>tr ρ G1 fun xs G2=>R (x :: xs) G2
theorem aqG:PA3 X [] aD:=PA.imp aBX fun σ H Q h=>by
  obtain ⟨ρ,G,R,s,g,t,k⟩:=h;exact k [] H [] G (.refl H) .nil g t
theorem a3S (ha:cR X e te) (hr:PA3 X es t) (hs:starEach (e :: es) X.env=(false,eval e X.env) :: starEach es X.env:=by rfl):PA3 X (e :: es) (aA te t):=PA.imp (avV ha hr hs) fun σ H Q h=>by
  obtain ⟨ρ,G,R,s,g,t,k⟩:=h;refine ⟨ρ,G,_,s,g,t,fun v H1 x G1 t1 r g1 q=>?_⟩;refine ⟨ρ,G1,_,s.mono t1,g1,q,fun vs H2 xs G2 t2 rs g2 q'=>?_⟩;exact k (v :: vs) H2 (x :: xs) G2 (t1.trans t2) (.cons (r.mono t2) rs) g2 q'
noncomputable def tD (t:yH):cL:=fun ρ G R=>t ρ G fun xs G1=>xs.length<=sizeLine/\R (.tup xs) G1
noncomputable def rO (t:yH):cL:=fun ρ G R=>t ρ G fun xs G1=>xs.length<=sizeLine/\∀ p,G1 p=none->R (.ref p) (aL G1 p (.lst xs))
theorem aID {x1} (h:PA3 X es t):cR X (.Tuple es x1 pos) (tD t):=PE.imp (aBY h) fun σ H Q h=>by
  obtain ⟨ρ,G,R,s,g,t,k⟩:=h;refine ⟨ρ,G,_,s,g,t,fun vs H1 xs G1 t1 r g1 q=>?_⟩;refine ⟨by rw [← r.length];exact q.1,fun p hp=>?_⟩;have sn:Same H1 (upd H1 p (.tup vs)):=bU hp;exact k (.ref p) _ (.tup xs) G1 (t1.trans (.same sn)) (.tup (SqT.of aJ) (r.mono (.same sn)) (ak6 aJ)) (g1.same sn) q.2
theorem aIE (h:PA3 X es t):cR X (.List es pos) (rO t):=PE.imp (PE.kf (aBZ h)) fun σ H Q h=>by
  obtain ⟨ρ,G,R,s,g,t,k⟩:=h;refine ⟨ρ,G,_,s,g,t,fun vs H1 xs G1 t1 r g1 q=>?_⟩;refine ⟨by rw [← r.length];exact q.1,fun p hp kf=>?_⟩;have sn:Same H1 (upd H1 p (.lst vs)):=bU hp;exact k (.ref p) _ (.ref p) _ (t1.trans (.same sn)) (.ref p) (g1.put (u := .lst xs) hp ⟨vs,aJ,r.mono (.same sn)⟩) (q.2 p (nQ g1 hp kf))
end
end
variable {f:Value->Value->Sem Value}{ds:List D}{G:Gp}{g:Int->Int->Int}
section
section
variable {X:Cx} {a b c:Expr} {ta tb tc:cL} {pos:Pos}
noncomputable def rI3 (C:Int->Int->Prop) (g:Int->Int->Int):R3:=fun x y G R=>match x,y with
  | .int i,.int j=>C i j/\R (.int (g i j)) G
  | _,_=>False
noncomputable def aIG (g:Int->Int->Int):R3:=fun x y G R=>match x,y with
  | .int i,.int j=>R (.int (g i j)) G
  | _,_=>False
noncomputable def awF (g:Int->Int->Bool):R3:=fun x y G R=>match x,y with
  | .int i,.int j=>R (.bl (g i j)) G
  | _,_=>False
theorem alS {C:Int->Int->Prop} (h:wK X f (rI C fun i j => .int (g i j))):aa1 X f (rI3 C g):=by
  refine ⟨_,h,fun H x y vx vy G R Q rx ry gh h k=>?_⟩;cases rx with
  | int i =>
    cases ry with
    | int j=>exact ⟨i,j,rfl,rfl,h.1,fun _=>k _ H _ G (.refl H) (.int _) gh h.2⟩
    | _=>exact False.elim h
  | _=>exact False.elim h
theorem aCG (h:wK X f (rI0 fun i j => .int (g i j))):aa1 X f (aIG g):=by
  refine ⟨_,h,fun H x y vx vy G R Q rx ry gh h k=>?_⟩;cases rx with
  | int i =>
    cases ry with
    | int j=>exact ⟨i,j,rfl,rfl,fun _=>k _ H _ G (.refl H) (.int _) gh h⟩
    | _=>exact False.elim h
  | _=>exact False.elim h
theorem ak8 {g:Int->Int->Bool} (h:wK X f (rI0 fun i j => .bl (g i j))):rA X f (awF g):=by
  refine ⟨_,h,fun H x y vx vy G R Q rx ry gh h k=>?_⟩;cases rx with
  | int i =>
    cases ry with
    | int j=>exact ⟨i,j,rfl,rfl,k _ H _ G (.refl H) (.bl _) gh h⟩
    | _=>exact False.elim h
  | _=>exact False.elim h
noncomputable def adI:R3:=aIG fun i j=>i - j
noncomputable def a0B:R3:=rI3 apZ fun i j=>i * j
noncomputable def fL:R3:=rI3 aBM fun i j=>i / j
noncomputable def dJ:R3:=rI3 (fun _ j=>0 < j) fun i j=>i % j
noncomputable def adJ:R3:=rI3 aBN fun i j=>i ^ j.toNat
theorem aIH:aa1 X (binaryOp .Sub) adI:=aCG aBP
theorem aII:aa1 X (binaryOp .Mult) a0B:=alS aBQ
theorem aCH:aa1 X (binaryOp .FloorDiv) fL:=alS avP
theorem aIJ:aa1 X (binaryOp .Mod) dJ:=alS aBR
theorem aIK:aa1 X (binaryOp .Pow) adJ:=alS aBS
noncomputable def ao5:R3:=awF fun i j=>decide (i < j)
noncomputable def aqH:R3:=awF fun i j=>decide (j < i)
noncomputable def aIL:R3:=awF fun i j=>decide (j<=i)
theorem aMN:rA X (compareOp .Lt) ao5:=ak8 aHG
theorem aMO:rA X (compareOp .Gt) aqH:=ak8 aHI
theorem aMP:rA X (compareOp .GtE) aIL:=ak8 aHJ
noncomputable def aqI:R3:=fun x y G R=>match x,y with
  | .int i,.int j=>R (.bl (decide (i<=j))) G
  | .str i,.str j=>R (.bl (!decide (j.cps.toList < i.cps.toList))) G
  | _,_=>False
theorem ao6:wK X (compareOp .LtE) (fun x y H Q=>∃ i j,x = .str i/\y = .str j/\Q (.bl (!decide (j.cps.toList < i.cps.toList))) H):=by
  intro pins s σ H x y v u Q I rx ry h;obtain ⟨i,j,rfl,rfl,q⟩:=h;obtain ⟨t,rfl⟩:=rx;obtain ⟨t',rfl⟩:=ry;exact PySem.P.le_str ⟨.bl _,H,I,rfl,q⟩
theorem aMQ:rA X (compareOp .LtE) aqI:=by
  refine ⟨_,aHH.or ao6,fun H x y vx vy G R Q rx ry gh h k=>?_⟩;cases rx with
  | int i =>
    cases ry with
    | int j=>exact .inl ⟨i,j,rfl,rfl,k _ H _ G (.refl H) (.bl _) gh h⟩
    | _=>exact False.elim h
  | str i =>
    cases ry with
    | str j=>exact .inr ⟨i,j,rfl,rfl,k _ H _ G (.refl H) (.bl _) gh h⟩
    | _=>exact False.elim h
  | _=>exact False.elim h
noncomputable def fU:R3:=fun x y G R=>match x,y with
  | .int i,.int j=>R (.int (i+j)) G
  | .str i,.str j=>i.length+j.length<=sizeLine/\R (.str (i++j)) G
  | .tup xs,.tup ys=>xs.length+ys.length<=sizeLine/\R (.tup (xs++ys)) G
  | .ref l,.ref m=>match G l,G m with
    | some (.lst xs),some (.lst ys)=>xs.length+ys.length<=sizeLine/\∀ p,G p=none->R (.ref p) (aL G p (.lst (xs++ys)))
    | _,_=>False
  | _,_=>False
theorem aqJ:wK X (binaryOp .Add) (fun x y H Q=>∃ a b ys,x = .ref a/\y = .ref b/\SqT X.K H a []/\SqT X.K H b ys/\Q (.ref b) H):=by
  intro pins s σ H x y v u Q I rx ry h;obtain ⟨a,b,ys,rfl,rfl,ha,hb,q⟩:=h;cases rx;cases ry;obtain ⟨its,r1,p1,_⟩:=I.tuple ha;obtain ⟨its2,r2,p2,_⟩:=I.tuple hb;cases r1;obtain ⟨⟨cls,dd,data,sl⟩,ho,hc,n,hd⟩:=id p1;obtain ⟨⟨cls2,dd2,data2,sl2⟩,ho2,hc2,n2,hd2⟩:=id p2;simp only at hc hd hc2 hd2;subst hc hd hc2 hd2
  exact concat_meets ⟨_,ho,rfl⟩ ⟨_,ho2,rfl⟩ noFill_tuple_add seq_tuple_add PySem.F.slot_tuple_add PySem.F.entry_tuple_add (PySem.F.args_tuple_add_2 _ _)
      (tuple_addW0 a b #[] its2.toArray n n2 dd dd2 sl sl2 (by simp)) ⟨ho,ho2,⟨.ref b,H,I,rfl,q⟩⟩
theorem aIM:aa1 X (binaryOp .Add) fU:=by
  refine ⟨_,aBO.or (ajS.or (aw5.or (aqJ.or aCB))),fun H x y vx vy G R Q rx ry gh h k=>?_⟩;cases rx with
  | int i =>
    cases ry with
    | int j=>exact .inl ⟨i,j,rfl,rfl,fun _=>k _ H _ G (.refl H) (.int _) gh h⟩
    | _=>exact False.elim h
  | str i =>
    cases ry with
    | str j=>exact .inr (.inl ⟨i,j,rfl,rfl,h.1,fun _=>k _ H _ G (.refl H) (.str _) gh h.2⟩)
    | _=>exact False.elim h
  | @tup a xs ds ha ra ea =>
    cases ry with
    | @tup b ys es hb rb eb =>
      by_cases hn:ds=[]
      . subst hn;cases ra;exact .inr (.inr (.inr (.inl ⟨a,b,ys,rfl,rfl,ha,hb,fun _=>k _ H _ G (.refl H) (.tup hb rb eb) gh h.2⟩)))
      . refine .inr (.inr (.inl ⟨a,b,xs,ys,rfl,rfl,ha,hb,fun z=>hn (ra.a5F.mp z),by rw [← ra.length,← rb.length];exact h.1,fun z _=>?_,fun _ p hp _=>?_⟩))
        . subst z;cases rb;have h2:=h.2;rw [uw] at h2;exact k _ H _ G (.refl H) (.tup ha ra ea) gh h2
        . have sn:Same H (upd H p (.tup (xs++ys))):=bU hp;exact k _ _ _ G (.same sn) (.tup (SqT.of aJ) ((ra.append rb).mono (.same sn)) (ak6 aJ)) (gh.same sn) h.2
    | _=>exact False.elim h
  | ref l =>
    cases ry with
    | ref m =>
      have h':(match G l,G m with
        | some (.lst xs),some (.lst ys)=>xs.length+ys.length<=sizeLine/\∀ p,G p=none->R (.ref p) (aL G p (.lst (xs++ys)))
        | _,_=>False):=h
      split at h'
      . rename_i xs ys e1 e2;obtain ⟨xv,f1,r1⟩:=gh l _ e1;obtain ⟨yv,f2,r2⟩:=gh m _ e2;refine .inr (.inr (.inr (.inr ⟨l,m,xv,yv,rfl,rfl,f1,f2,by rw [← r1.length,← r2.length];exact h'.1,fun p hp kf=>?_⟩)));have sn:Same H (upd H p (.lst (xv++yv))):=bU hp;exact k _ _ _ _ (.same sn) (.ref p) (gh.put (u := .lst (xs++ys)) hp ⟨_,aJ,(r1.append r2).mono (.same sn)⟩) (h'.2 p (nQ gh hp kf))
      . exact h'.elim
    | _=>exact False.elim h
  | _=>exact False.elim h
noncomputable def ao7:R3:=fun x y G R=>match x,y with
  | .non,.non=>R (.bl true) G
  | _,.non=>R (.bl false) G
  | .bl i,.bl j=>R (.bl (i == j)) G
  | .int _,.bl _=>R (.bl false) G
  | .str _,.bl _=>R (.bl false) G
  | .non,.bl _=>R (.bl false) G
  | .tup _,.bl _=>R (.bl false) G
  | .ref _,.bl _=>R (.bl false) G
  | _,_=>False
noncomputable def aa3:R3:=fun x y G R=>ao7 x y G fun d G'=>match d with
  | .bl k=>R (.bl (!k)) G'
  | _=>False
theorem isV (x:V) (v:Value) (k:Bool) (r:RelV x v):(v == .bool k)=decide (x = .bl k):=by
  cases x with
  | non=>cases r;rfl
  | bl b =>
    cases r;cases b <;> cases k <;> rfl
  | int _=>obtain ⟨t,rfl⟩:=r;rfl
  | str _=>obtain ⟨t,rfl⟩:=r;rfl
  | byt _=>obtain ⟨t,rfl⟩:=r;rfl
  | flt _=>obtain ⟨t,rfl⟩:=r;rfl
  | ref _=>cases r;rfl
  | ty _=>cases r;rfl
theorem adK (x:V) (v:Value) (k:Bool) (r:RelV x v):plainIs v (.bool k)=true:=by
  cases x with
  | non=>cases r;rfl
  | bl b=>cases r;rfl
  | int _=>obtain ⟨t,rfl⟩:=r;rfl
  | str _=>obtain ⟨t,rfl⟩:=r;rfl
  | byt _=>obtain ⟨t,rfl⟩:=r;rfl
  | flt _=>obtain ⟨t,rfl⟩:=r;rfl
  | ref _=>cases r;rfl
  | ty _=>cases r;rfl
theorem awG:wK X (compareOp .Is) (fun x y H Q=>∃ k,y = .bl k/\Q (.bl (decide (x = .bl k))) H):=by
  intro pins s σ H x y v u Q I rx ry h;obtain ⟨k,rfl,q⟩:=h;cases ry;exact wpAny_is_plain (adK x v k rx) ⟨.bl _,H,I,by rw [isV x v k rx];rfl,q⟩
theorem ao8:wK X (compareOp .IsNot) (fun x y H Q=>∃ k,y = .bl k/\Q (.bl (!decide (x = .bl k))) H):=by
  intro pins s σ H x y v u Q I rx ry h;obtain ⟨k,rfl,q⟩:=h;cases ry;exact wpAny_isNot_plain (adK x v k rx) ⟨.bl _,H,I,by rw [isV x v k rx];rfl,q⟩
theorem aMR:rA X (compareOp .Is) ao7:=by
  refine ⟨_,aBU.or awG,fun H x y vx vy G R Q rx ry gh h k=>?_⟩;cases ry with
  | non =>
    refine .inl ⟨rfl,?_⟩;cases rx with
    | non=>exact k _ H _ G (.refl H) (.bl _) gh h
    | _=>exact k _ H _ G (.refl H) (.bl _) gh h
  | bl j =>
    refine .inr ⟨j,rfl,?_⟩;cases rx with
    | bl i =>
      have e:decide (V.bl i=V.bl j)=(i == j):=by cases i <;> cases j <;> rfl
      rw [e];exact k _ H _ G (.refl H) (.bl _) gh h
    | ty n=>exact False.elim h
    | _=>exact k _ H _ G (.refl H) (.bl _) gh h
  | _=>cases rx <;> exact False.elim h
theorem aCI:rA X (compareOp .IsNot) aa3:=by
  refine ⟨_,avQ.or ao8,fun H x y vx vy G R Q rx ry gh h k=>?_⟩;cases ry with
  | non =>
    refine .inl ⟨rfl,?_⟩;cases rx with
    | non=>exact k _ H _ G (.refl H) (.bl _) gh h
    | _=>exact k _ H _ G (.refl H) (.bl _) gh h
  | bl j =>
    refine .inr ⟨j,rfl,?_⟩;cases rx with
    | bl i =>
      have e:decide (V.bl i=V.bl j)=(i == j):=by cases i <;> cases j <;> rfl
      rw [e];exact k _ H _ G (.refl H) (.bl _) gh h
    | ty n=>exact False.elim h
    | _=>exact k _ H _ G (.refl H) (.bl _) gh h
  | _=>cases rx <;> exact False.elim h
noncomputable def bY (G:Gp) (a:Addr):Option (List D):=match G a with
  | some (.lst ds)=>some ds
  | some (.rol ds)=>some ds
  | _=>none
theorem d8 {K:Fg} (g:HR K H G) {a:Addr} (e:bY G a=some ds):∃ xs,SqL K H a xs/\cN K H ds xs:=by
  unfold bY at e;split at e
  . rename_i ds' q;cases e;obtain ⟨xs,h1,h2⟩:=g a _ q;exact ⟨xs,SqL.of h1,h2⟩
  . rename_i ds' q;cases e;exact g a _ q
  . cases e
noncomputable def iQ:R3:=fun x y G R=>match x,y with
  | .tup xs,.int i=>match atI xs i with
    | some d=>R d G
    | none=>False
  | .str z,.int i=>z.length<=sizeLine/\match atI z.cps.toList i with
    | some c=>R (.str ⟨#[c]⟩) G
    | none=>False
  | .ref p,.int i=>match bY G p with
    | some xs=>(match atI xs i with
      | some d=>R d G
      | none=>False)
    | none=>False
  | _,_=>False
theorem aqK {K:Fg} (r:cN K H ds xs) {i:Int} {d:D} (e:atI ds i=some d):∃ v,atI xs i=some v/\RD K H d v:=by
  unfold atI at e ⊢;rw [← r.length];cases q:ixN ds.length i with
  | none=>rw [q] at e;cases e
  | some j =>
    rw [q] at e;exact r.get e
theorem aMS (ha:cR X a ta) (hb:cR X b tb) (hs:aeN b):cR X (.Subscript a b pos) (aG iQ ta tb):=by
  refine PE.imp (aHU aC8 ha hb hs) fun _ _ _ h=>ak7 ?_ h;intro H x y vx vy G R Q rx ry gh h k;cases rx with
  | @tup p xs ds hp r =>
    cases ry with
    | int i =>
      have h':(match atI ds i with
        | some d=>R d G
        | none=>False):=h
      split at h'
      . rename_i d e;obtain ⟨v,e1,e2⟩:=aqK r e;exact .inr (.inl ⟨p,xs,i,v,rfl,rfl,hp,e1,k v H d G (.refl H) e2 gh h'⟩)
      . exact h'.elim
    | _=>exact False.elim h
  | str z =>
    cases ry with
    | int i =>
      have h':z.length<=sizeLine/\(match atI z.cps.toList i with
        | some c=>R (.str ⟨#[c]⟩) G
        | none=>False):=h
      obtain ⟨hz,h'⟩:=h';split at h'
      . rename_i d e;exact .inr (.inr ⟨z,i,d,rfl,rfl,hz,e,k _ H _ G (.refl H) (.str _) gh h'⟩)
      . exact h'.elim
    | _=>exact False.elim h
  | ref p =>
    cases ry with
    | int i =>
      have h':(match bY G p with
        | some xs=>(match atI xs i with
          | some d=>R d G
          | none=>False)
        | none=>False):=h
      split at h'
      . rename_i ds e;obtain ⟨xs,hp,r⟩:=d8 gh e;split at h'
        . rename_i d e';obtain ⟨v,e1,e2⟩:=aqK r e';exact .inl ⟨p,xs,i,v,rfl,rfl,hp,e1,k v H d G (.refl H) e2 gh h'⟩
        . exact h'.elim
      . exact h'.elim
    | _=>exact False.elim h
  | _=>exact False.elim h
noncomputable abbrev TO3:=aO->Gp->(Option Int->Gp->Prop)->Prop
noncomputable def upO (K:Fg) (t:TO3):TO:=fun σ H Q=>∃ ρ G R,SR K H ρ σ/\HR K H G/\t ρ G R/\∀ i H' G',Ts H H'->HR K H' G'->R i G'->Q i H'
noncomputable abbrev PO3 (X:Cx) (e:Option Expr) (t:TO3):Prop:=PO X e (upO X.K t)
theorem PO.imp {e:Option Expr} {t t':TO} (h:PO X e t) (k:∀ σ H Q,t' σ H Q->t σ H Q):PO X e t':=fun pins s σ H Q I q=>h pins s σ H Q I (k _ _ _ q)
noncomputable def agS:TO3:=fun _ G R=>R none G
noncomputable def aqL (t:cL):TO3:=fun ρ G R=>t ρ G fun x G1=>match x with
  | .int i=>R (some i) G1
  | _=>False
theorem aCJ:PO3 X none agS:=PO.imp aw2 fun σ H Q h=>by
  obtain ⟨ρ,G,R,s,g,t,k⟩:=h;exact k none H G (.refl H) g t
theorem aCK {te:cL} (h:cR X e te):PO3 X (some e) (aqL te):=PO.imp (aw3 h) fun σ H Q h=>by
  obtain ⟨ρ,G,R,s,g,t,k⟩:=h;refine ⟨ρ,G,_,s,g,t,fun v H1 x G1 t1 r g1 q=>?_⟩;cases r with
  | int i=>exact ⟨i,rfl,k _ H1 G1 t1 g1 q⟩
  | _=>exact False.elim q
end
end
variable {F:Ends}
section
section
variable {X:Cx} {st:Stmt} {rest:List Stmt} {t u:bJ} {e:Expr} {te:cL} {pos:Pos}
noncomputable def cT:bJ:=fun F ρ G=>F.nx ρ G
noncomputable def aR (t u:bJ):bJ:=fun F ρ G=>t { F with nx:=u F } ρ G
theorem aIO:a6Y X [] cT:=PSs.imp avJ fun F σ H h=>by
  obtain ⟨ρ,G,E,s,g,q,d⟩:=h;exact d.nx ρ G σ H s g q
theorem aCL {K:Fg} {σ:St} (h:upS K (aR t u) F σ H):aH5 (upS K t) (upS K u) F σ H:=by
  obtain ⟨ρ,G,E,s,g,q,d⟩:=h;exact ⟨ρ,G,_,s,g,q,⟨fun ρ' G' σ' H' s1 g1 h=>⟨ρ',G',E,s1,g1,h,d⟩,d.rt,d.bk,d.ct⟩⟩
theorem aCM (h1:PS3 X st t) (h2:a6Y X rest u):a6Y X (st :: rest) (aR t u):=PSs.imp (apU h1 h2) fun _ _ _ h=>aCL h
theorem aIP (h1:PS3 X st t):a6Y X [st] t:=avK h1
theorem aCN:PS3 X (.Pass pos) cT:=PS.imp avL fun F σ H h=>by
  obtain ⟨ρ,G,E,s,g,q,d⟩:=h;exact d.nx ρ G σ H s g q
noncomputable def cF (te:cL):bJ:=fun F ρ G=>te ρ G fun _ G1=>F.nx ρ G1
theorem aCO (he:cR X e te) (hs:swapsWith e none pos.line X.env=pure false:=by rfl):PS3 X (.Expr e pos) (cF te):=PS.imp (avM he hs) fun F σ H h=>by
  obtain ⟨ρ,G,E,s,g,q,d⟩:=h;exact ⟨ρ,G,_,s,g,q,fun v H' x G' t1 r g1 h=>d.nx ρ G' σ H' (s.mono t1) g1 h⟩
noncomputable def d7 (te:cL):bJ:=fun F ρ G=>te ρ G F.rt
theorem aIQ (he:cR X e te):PS3 X (.Return (some e) pos) (d7 te):=PS.imp (aBH he) fun F σ H h=>by
  obtain ⟨ρ,G,E,s,g,q,d⟩:=h;exact ⟨ρ,G,_,s,g,q,fun v H' x G' t1 r g1 h=>d.rt x G' v H' r g1 h⟩
noncomputable def gR (c:TT3) (t u:bJ):bJ:=fun F ρ G=>c ρ G fun b G1=>if b=true then t F ρ G1 else u F ρ G1
theorem aMU {c:Expr} {a b:List Stmt} {tc:TT3} (hc:PT3 X c tc) (ha:a6Y X a t) (hb:a6Y X b u):PS3 X (.If c a b pos) (gR tc t u):=PS.imp (aH7 hc ha hb) fun F σ H h=>by
  obtain ⟨ρ,G,E,s,g,q,d⟩:=h;refine ⟨ρ,G,_,s,g,q,fun b H' G' t1 g1 h=>?_⟩;cases b with
  | true=>exact ⟨ρ,G',E,s.mono t1,g1,h,d⟩
  | false=>exact ⟨ρ,G',E,s.mono t1,g1,h,d⟩
noncomputable def eU (i:Nat) (te:cL):bJ:=fun F ρ G=>te ρ G fun x G1=>F.nx (a5I ρ i x) G1
theorem aIR {pos':Pos} (hN:X.N.Nodup) (hi:X.N[i]?=some x) (hx:Loc X.env.scope x) (he:cR X e te) (hs:swapsWith e (some (.Name x pos')) pos.line X.env=pure false:=by rfl) (hf:X.fn x=true∨X.env.scope.names.lookup x=some .local:=by first | exact .inl rfl | exact .inr rfl | assumption) :
    PS3 X (.Assign [.Name x pos'] e pos) (eU i te):=PS.imp (aBK hN hi hx he hs hf) fun F σ H h=>by
  obtain ⟨ρ,G,E,s,g,q,d⟩:=h;exact ⟨ρ,G,_,s,g,q,fun v H' x G' t1 r g1 h=>d.nx _ G' _ H' ((s.mono t1).set r i) g1 h⟩
end
section
variable {X:Cx} {body:List Stmt} {tb:bJ} {e:Expr} {te:cL} {pos:Pos}
theorem agT {K:Fg} {J:It} {g:TG} {tb:TS} {σ:St} (Pv:Nat->St->Hp->Prop) (h0:Pv 0 σ H)
    (stop:∀ σ H,Pv n σ H->J.stop n H) (go:∀ i σ H,i < n->Pv i σ H->J.go i H)
    (hs:∀ i x σ H H',i < n->Pv i σ H->J.yld i H x H'->g x σ H' fun σ2 H2=>tb { F with nx:=Pv (i+1),ct:=Pv (i+1),bk:=F.nx } σ2 H2) (hd:∀ σ H,Pv n σ H->F.nx σ H) :
    ∃ W:Nat->Nat->St->Hp->Prop,(∃ m,W 0 m σ H)/\∀ i m σ H,W i m σ H ->
      (J.stop i H/\F.nx σ H)∨(J.go i H/\∃ N:St->Hp->Prop,(∀ σ' H',N σ' H'->∃ m',m' < m/\W (i+1) m' σ' H')/\∀ x H',J.yld i H x H'->g x σ H' fun σ2 H2=>tb { F with nx:=N,ct:=N,bk:=F.nx } σ2 H2):=by
  refine ⟨fun i m σ H=>m=n - i/\i<=n/\Pv i σ H,⟨n,by simp,lu _,h0⟩,?_⟩;rintro i m σ H ⟨rfl,hi,p⟩;by_cases hlt:i < n
  . exact .inr ⟨go i σ H hlt p,Pv (i+1),fun σ' H' p'=>⟨n - (i+1),by omega,rfl,hlt,p'⟩,fun x H' y=>hs i x σ H H' hlt p y⟩
  . have e:i=n:=by omega
    subst e;exact .inl ⟨stop σ H p,hd σ H p⟩
end
noncomputable abbrev aZ:=Addr->Gp->Prop
noncomputable abbrev uX:=List D->Gp->j4->aZ->Prop
noncomputable def UpX (K:Fg) (EX:aZ) (E:XK):Prop:=∀ C H' G',HR K H' G'->EX C G'->E (.ref C) none H'
noncomputable def dB (K:Fg) (sp:uX):Sp:=fun vs H Q E=>∃ ds G R EX,cN K H ds vs/\HR K H G/\sp ds G R EX/\(∀ v H' d G',RD K H' d v->HR K H' G'->R d G'->Q v H')/\UpX K EX E
section
variable {X:Cx} {CX:CXT} {k:Nat} {f C:Addr} {fd:FuncData} {ps:List Str} {sp:uX} {E:XK} {EX:aZ} {x:Str} {p pos:Pos} {e:Expr} {es:List Expr} {t:yH}
noncomputable def aMV (n m:Nat) (tb:aZ->bJ):uX:=fun ds G R EX=>ds.length=m/\tb EX ⟨fun _ G'=>R .non G',R,fun _ _=>False,fun _ _=>False⟩ (aeT n ds) G
end
end
variable {l:List Env}{C:Addr}{us:List Value}{s':Shared}
section
noncomputable def oJ (P:Program) (w:World):CXT:=fun outer H s E e s'=>∃ (x C:Addr) (H':Hp) (B:Heap),e = .ref x/\Fly B outer x (.ref C) s'.heap/\HOk P w H' B /\
  (∀ b o,s.heap.get? b=some o->H b=none->b ∉ frs outer->B.get? b=some o)/\(∀ b o,s.heap.get? b=some o->b ∉ frs outer->∃ o',B.get? b=some o') /\
  Un (frs outer) [] H H' s.heap s'.heap/\s'.os=s.os/\AllBare s'.gens/\E (.ref C) none H'
theorem alT (h:b∈frs l):∃ env∈l,env.frame=some b:=wz.mp h
theorem aeW {env:Env} (h:env∈l) (e:env.frame=some b):b∈frs l:=wz.mpr ⟨env,h,e⟩
section
variable {qt:Bool} {P:Program} {w:World} {K:Fg} {mg:Str->Option Value} {base:Heap} {N:List Str} {qual:Str} {scope:Scope} {f:Addr} {cd:Value} {A:Around} {outer:List Env} {s₀:Shared} {H₀:Hp} {E:XK}
noncomputable abbrev cx1 (qt:Bool) (P:Program) (w:World) (K:Fg) (mg:Str->Option Value) (base:Heap) (N:List Str) (qual:Str) (scope:Scope) (f:Addr) (cd:Value) (A:Around) (outer:List Env) (s₀:Shared) (H₀:Hp) (E:XK):Cx:=uZ qt (oJ P w) P w K mg base N qual scope f cd A outer s₀ H₀ E
theorem nF {X:Cx} {σ:St} (I:Inv X pins σ H s) (hst:X.stack=X.env :: X.outer) (hf:X.env.frame=some X.env.locals) {o:Obj} (e:X.s₀.heap.get? b=some o) (n:b ∉ frs X.outer):b ∉ frs X.stack:=fun hb=>by
  obtain ⟨env,he,hfr⟩:=alT hb;rw [hst] at he;rcases ig.mp he with rfl | he
  . have z:X.env.locals=b:=gk.inj (hf.symm.trans hfr);have h1:=I.ok.above;have h2:=bh e;rw [z] at h1;exact absurd (dz h2 h1) (kh _)
  . exact n (aeW he hfr)
theorem awH {σ:St} {e:Addr} {h':Heap} (I:Inv (cx1 qt P w K mg base N qual scope f cd A outer s₀ H₀ E) pins σ H s) (hm:a0c s.heap h' e (.ref C) us) (q:E (.ref C) none H) :
    (cx1 qt P w K mg base N qual scope f cd A outer s₀ H₀ E).xe (.ref e) { s with heap:=h' }:=by
  have hst:(cx1 qt P w K mg base N qual scope f cd A outer s₀ H₀ E).stack=(cx1 qt P w K mg base N qual scope f cd A outer s₀ H₀ E).env :: outer:=rfl;have hin:∀ env∈(cx1 qt P w K mg base N qual scope f cd A outer s₀ H₀ E).stack,∀ b,env.frame=some b->b∈frs (cx1 qt P w K mg base N qual scope f cd A outer s₀ H₀ E).stack:=fun env he b hb=>aeW he hb;have hB:∀ b o,(zj s.heap (frs (cx1 qt P w K mg base N qual scope f cd A outer s₀ H₀ E).stack)).get? b=some o->s.heap.get? b=some o:=fun b o e=>PySem.W.of_hideAll _ e;have toB:∀ b o,s.heap.get? b=some o->b ∉ frs (cx1 qt P w K mg base N qual scope f cd A outer s₀ H₀ E).stack->(zj s.heap (frs (cx1 qt P w K mg base N qual scope f cd A outer s₀ H₀ E).stack)).get? b=some o:=fun b o e n=>PySem.W.hideAll_get _ e n;have fr:=PySem.W.funFrames_hide I.stack hin;refine ajN (B:=zj s.heap (frs (cx1 qt P w K mg base N qual scope f cd A outer s₀ H₀ E).stack)) (h0:=s.heap) I.ok.frames rfl hB fr hm fun h2 k1 k4=>?_;have up:∀ b o,s.heap.get? b=some o->(∀ vs,o.data ≠ .fields vs)->∃ sl,h2.get? b=some { o with slots:=sl }:=fun b o e nd=>k4 b o (hm.keeps b o e) nd
  have hfd:∀ b∈frs outer,∀ o,s.heap.get? b=some o->∀ vs,o.data ≠ .fields vs:=fun b hb o e=>by
    obtain ⟨_,o',ho',hd⟩:=I.vV.mem hb;rw [e] at ho';cases ho';exact hd
  refine ⟨e,C,H,_,rfl,k1,?_,fun b o eb nb hb=>?_,fun b o eb hb=>?_,⟨fun b o eb nb hb _=>?_,fun b o eb nb hb _=>?_,fun b o eb nb hx=>I.base.free b o eb nb hx,fun b o eb hx=>?_,I.base.tups,I.base.m7,I.base.uY⟩,I.os,I.bare,q⟩
  . intro b o hb;refine (I.hok b o hb).stay (fun c u hc eu=>toB c u eu fun hz=>?_) (fun _ z=>z) fun _ _ z=>z;have n:=I.aeH c hz;rcases hc with rfl | hc
    . rw [hb] at n;cases n
    . rw [hc] at n;cases n
  . exact toB b o (I.base.keep b o eb nb hb (by simp [uZ])) (nF I hst rfl eb hb)
  . obtain ⟨o',e'⟩:=I.base.there b o eb (by simp [uZ]);exact ⟨o',toB b o' e' (nF I hst rfl eb hb)⟩
  . exact k1.stays b o (toB b o (I.base.keep b o eb nb hb (by simp [uZ])) (nF I hst rfl eb hb))
  . obtain ⟨sl,e1⟩:=I.base.slot b o eb nb hb (by simp [uZ]);obtain ⟨sl2,e2⟩:=up b _ e1 (hfd b hb _ e1);exact ⟨sl2,e2⟩
  . obtain ⟨o',e'⟩:=I.base.there b o eb (by simp [uZ]);by_cases hb:b∈frs outer
    . obtain ⟨sl,e1⟩:=up b o' e' (hfd b hb o' e');exact ⟨_,e1⟩
    . exact ⟨o',k1.stays b o' (toB b o' e' (nF I hst rfl eb hb))⟩
theorem awI {E':XK} (hE:∀ C H',E' C none H'->E C none H') {σ:St} {e:Value} (I:Inv (cx1 qt P w K mg base N qual scope f cd A outer s₀ H₀ E) pins σ H s)
    (c:oJ P w (cx1 qt P w K mg base N qual scope f cd A outer s₀ H₀ E).stack H s E' e s'):(cx1 qt P w K mg base N qual scope f cd A outer s₀ H₀ E).xe e s':=by
  obtain ⟨x,C,H',B,rfl,fl,hok,cov,ak9,un,os,bare,q⟩:=c;have hst:(cx1 qt P w K mg base N qual scope f cd A outer s₀ H₀ E).stack=(cx1 qt P w K mg base N qual scope f cd A outer s₀ H₀ E).env :: outer:=rfl;refine apM (B:=B) I.ok.frames rfl fl fun h2 k1 k4=>?_
  have hfs:∀ b∈frs outer,b∈frs (cx1 qt P w K mg base N qual scope f cd A outer s₀ H₀ E).stack:=fun b hb=>by
    obtain ⟨env,he,hf⟩:=alT hb;exact aeW (jr _ he) hf
  have hfd:∀ b∈frs outer,∀ o,s'.heap.get? b=some o->∀ vs,o.data ≠ .fields vs:=fun b hb o e=>by
    obtain ⟨_,o',ho',hd⟩:=fl.aB0.mem (hfs b hb);rw [e] at ho';cases ho';exact hd
  refine ⟨x,C,H',B,rfl,k1,hok,fun b o eb nb hb=>?_,fun b o eb hb=>?_,⟨fun b o eb nb hb _=>?_,fun b o eb nb hb _=>?_,fun b o eb nb hx=>?_,fun b o eb hx=>?_,fun b xs z=>un.tups b xs (I.base.tups b xs z),fun b o u z=>un.m7 b o u (I.base.m7 b o u z),fun b ps z=>?_⟩,os.trans I.os,bare,hE _ _ q⟩
  . exact cov b o (I.base.keep b o eb nb hb (by simp [uZ])) (I.base.free b o eb nb (by simp [uZ])) (nF I hst rfl eb hb)
  . obtain ⟨o',e'⟩:=I.base.there b o eb (by simp [uZ]);exact ak9 b o' e' (nF I hst rfl eb hb)
  . exact k1.stays b o (cov b o (I.base.keep b o eb nb hb (by simp [uZ])) (I.base.free b o eb nb (by simp [uZ])) (nF I hst rfl eb hb))
  . obtain ⟨sl,e1⟩:=I.base.slot b o eb nb hb (by simp [uZ]);obtain ⟨sl2,e2⟩:=un.slot b _ e1 (I.base.free b o eb nb (by simp [uZ])) (hfs b hb) (by simp);obtain ⟨sl3,e3⟩:=k4 b _ e2 (hfd b hb _ e2);exact ⟨sl3,e3⟩
  . obtain ⟨o',e'⟩:=I.base.there b o eb (by simp [uZ]);exact un.free b o' e' (I.base.free b o eb nb (by simp [uZ])) (by simp)
  . obtain ⟨o',e'⟩:=I.base.there b o eb (by simp [uZ]);by_cases hb:b∈frs outer
    . obtain ⟨o2,e2⟩:=un.there b o' e' (by simp);obtain ⟨sl,e3⟩:=k4 b o2 e2 (hfd b hb o2 e2);exact ⟨_,e3⟩
    . obtain ⟨o2,e2⟩:=ak9 b o' e' (nF I hst rfl eb hb);exact ⟨o2,k1.stays b o2 e2⟩
  . obtain ⟨m1,e1⟩:=I.base.uY b ps z;obtain ⟨m2,e2⟩:=un.uY b _ e1;exact ⟨m1++m2,by rw [e2,Array.append_assoc]⟩
end
noncomputable def a2Z (K:Fg) (EX:aZ):XK:=fun C _ H'=>∃ c G',C = .ref c/\HR K H' G'/\EX c G'
structure Cat (X:Cx) (EX:aO->aZ):Prop where
  adL:∀ pins σ H s ρ e s',Inv X pins σ H s->SR X.K H ρ σ->oJ X.prog X.w X.stack H s (a2Z X.K (EX ρ)) e s'->X.xe e s'
structure Thr (X:Cx) (EX:aO->aZ):Prop where
  made:∀ pins σ H s ρ C e us h',Inv X pins σ H s->SR X.K H ρ σ->a0c s.heap h' e (.ref C) us->a2Z X.K (EX ρ) (.ref C) none H->X.xe (.ref e) { s with heap:=h' }
section
variable {qt:Bool} {P:Program} {w:World} {K:Fg} {mg:Str->Option Value} {base:Heap} {N:List Str} {qual:Str} {scope:Scope} {f:Addr} {cd:Value} {A:Around} {outer:List Env} {s₀:Shared} {H₀:Hp} {E:XK} {EX:aZ}
theorem agU (h:UpX K EX E) {C:Value} (q:a2Z K EX C none H'):E C none H':=by
  obtain ⟨c,G',rfl,g,q⟩:=q;exact h c H' G' g q
theorem aMW (h:UpX K EX E):Cat (cx1 qt P w K mg base N qual scope f cd A outer s₀ H₀ E) (fun _=>EX) :=
  ⟨fun pins σ H s ρ e s' I _ c=>awI (E':=a2Z K EX) (fun C H' q=>agU h q) I c⟩
theorem aMX (h:UpX K EX E):Thr (cx1 qt P w K mg base N qual scope f cd A outer s₀ H₀ E) (fun _=>EX) :=
  ⟨fun pins σ H s ρ C e us h' I _ hm q=>awH I hm (agU h q)⟩
theorem own1:PassesOwn (model P w) (cx1 qt P w K mg base N qual scope f cd A outer s₀ H₀ E).A (cx1 qt P w K mg base N qual scope f cd A outer s₀ H₀ E).env (cx1 qt P w K mg base N qual scope f cd A outer s₀ H₀ E).xe:=PassesOwn.leaving
end
section
variable {X:Cx} {k:Nat} {f C:Addr} {fd:FuncData} {ps:List Str} {sp:uX} {EX:aO->aZ} {x:Str} {p pos:Pos} {e:Expr} {es:List Expr} {t:yH}
noncomputable def aV (sp:uX) (EX:aO->aZ) (t:yH):cL:=fun ρ G R=>t ρ G fun ds G1=>sp ds G1 R (EX ρ)
theorem alU {σ:St} {Q':VK} {E:XK} (F:cM qt X.prog X.w X.K X.mg X.base (oJ X.prog X.w) k f fd ps (dB X.K sp)) (hr:jH qt k X.A) (hb:Binds X.K fd ps [])
    (hx:∀ e s',oJ X.prog X.w X.stack H s E e s'->X.xe e s')
    (I:Inv X pins σ H s) (r:Vals vs us) (h:dB X.K sp vs H Q E) (hQ:∀ v H',Ts H H'->Q v H'->Q' v H'):wpAny (model X.prog X.w) X.A (call (.ref f) us) (EP X pins σ Q') X.xe s:=by
  have hl:(us++[]).length=ps.length:=by rw [uw,← r.length];exact F.len _ _ _ _ h
  refine wpAny_call (codeAny_mono (F.run X.A X.stack s H ⟨us,[]⟩ (us++[]) vs Q E hr I.env0 (hb s us I.kIn hl) (by rw [uw];exact r) h) fun r s' hq=>?_);cases r with
  | error e=>exact hx e s' hq
  | ok fl =>
    cases fl with
    | ret u =>
      obtain ⟨v,H',os,bare,un,hok,r,q⟩:=hq;exact ⟨v,H',I.call' (ch:=[]) os un hok bare (fun b z=>absurd z (by simp)),r,hQ v H' ⟨un.tups,un.m7⟩ q⟩
    | next=>exact False.elim hq
    | brk=>exact False.elim hq
    | cont=>exact False.elim hq
theorem awJ (F:cM qt X.prog X.w X.K X.mg X.base (oJ X.prog X.w) k f fd ps (dB X.K sp)) (hr:jH qt k X.A) (hg:Gl X x) (hm:X.mg x=some (.ref f)) (hk:jy X.K (.ref f)=true) (hb:Binds X.K fd ps []) (hx:Cat X EX)
    (ha:PA3 X (e :: es) t) (hdb:(x == ("__debug__" : Str))=false:=by decide) (he:starEach (e :: es) X.env=(false,eval e X.env) :: starEach es X.env:=by rfl) (hpl:(backTo pos (starEach es X.env)).any (·.1)=false:=by rfl) :
    cR X (.Call (.Name x p) (e :: es) [] pos) (aV sp EX t):=by
  intro pins s σ H Q I h;obtain ⟨ρ,G,R,sr,g,q,kk⟩:=h;refine wpAny_Call_Name_kw (rT I hg hm ?_ hdb);refine a0f (h₀:=X.base) I.ok.mod.kin hk (f9 (ha pos pins s σ H (fun vs H1=>Ts H H1/\∃ ds G1,cN X.K H1 ds vs/\HR X.K H1 G1/\sp ds G1 R (EX ρ)) I ⟨ρ,G,_,sr,g,q,fun vs H1 ds G1 t1 r1 g1 q1=>⟨t1,ds,G1,r1,g1,q1⟩⟩) fun us s1 ⟨vs,H1,I1,r,t1,ds,G1,r1,g1,q1⟩=>⟨I1.kIn,?_⟩) he hpl;refine alU (E:=a2Z X.K (EX ρ)) F hr hb (fun e s' c=>hx.adL pins σ H1 s1 ρ e s' I1 (sr.mono t1) c) I1 r (Q:=fun v H'=>∃ d G',RD X.K H' d v/\HR X.K H' G'/\R d G') ⟨ds,G1,R,EX ρ,r1,g1,q1,fun v H' d G' r2 g2 q2=>⟨d,G',r2,g2,q2⟩,fun C H' G' g' q'=>⟨C,G',rfl,g',q'⟩⟩ fun v H' t2 ⟨d,G',r2,g2,q2⟩=>kk v H' d G' (t1.trans t2) r2 g2 q2
theorem aCP {qt:Bool} {w:World} {K:Fg} {base:Heap} {f:Addr} {N ps:List Str} {k:Nat} {tb:aZ->bJ} (F:yG K x qual st f fd) (S:bA N ps (bW st))
    (hbody:∀ (cdv:Value) (A:Around) (outer:List Env) (s:Shared) (H:Hp) (E:XK) (EX:aZ),jH qt k (A.deeper (envOfC qual (bW st) s.heap.objs.size f cdv))->UpX K EX E ->
      a6Y (cx1 qt P w K mg base N qual (bW st) f cdv A outer s H E) (gU st) (tb EX)):cM qt P w K mg base (oJ P w) (k+1) f fd ps (dB K (aMV N.length ps.length tb)):=by
  obtain ⟨oc,od,dV,kV,doc,pm,an,cdv,ct,osl,rfl,lk,hcd⟩:=F.ex;have hpl:ps.length<=N.length:=by have:=congrArg List.length S.pre;rw [yw] at this;omega
  refine azU lk hcd S (fun vs H Q E h=>?_) fun A outer s H vs Q E hr hsp=>?_
  . obtain ⟨ds,G,R,EX,r,g,⟨hl,q⟩,_⟩:=h;rw [← r.length,hl]
  . obtain ⟨ds,G,R,EX,r,g,⟨hl,q⟩,kk,hE⟩:=hsp;refine ⟨_,hbody cdv A outer s H E EX hr hE,aeT N.length ds,G,_,?_,g,q,⟨fun ρ G' σ' H' s1 g1 q1=>kk .non H' .non G' .non g1 q1,fun d G' v H' r1 g1 q1=>kk v H' d G' r1 g1 q1,fun _ _ _ _ _ _ z=>z.elim,fun _ _ _ _ _ _ z=>z.elim⟩⟩;unfold aeT start;rw [r.length];exact SR.entry r
end
section
variable {X:Cx} {C:Addr} {bmB bmN:List Value} {B Bn newId nid initId inN:String} {EX:aO->aZ} {x:Str} {np cpos pos:Pos} {e:Expr} {es:List Expr} {t:yH}
theorem a9G {K:Fg} {h:Heap} (XK:K.In h) (q:jf K C bmB newId=true):∃ bm N nm q bs hdct sn sub ab col dd k0 k1 k2 k3 k5 mN,h.get? C=some (excClassObj nm q C N bs bm hdct sn sub ab col dd k0 k1 k2 k3 k5 newId)/\h.Ns N mN/\mN "__init__" = none/\OwnTail h bmB bm:=by
  unfold jf at q;split at q
  . rename_i dd cd sl ho;split at q
    . rename_i C' bm k0 k1 k2 k3 n k5 hm hs;simp only [ak,beq_iff_eq,bx] at q;obtain ⟨⟨⟨⟨⟨rfl,rfl⟩,hdel⟩,ht⟩,hok⟩,hni⟩:=q;obtain ⟨nm,bs,mro,ns,qn,hd,sn,sub,ab,col,del⟩:=cd;dsimp only at hm hdel hok hni;subst hm hdel
      have hsl:sl=#[k0,k1,k2,k3,some (.builtin n),k5]:=by
        obtain ⟨l⟩:=sl;simp only at hs;rw [hs]
      subst hsl;exact ⟨bm,ns,nm,qn,bs,hd,sn,sub,ab,col,dd,k0,k1,k2,k3,k5,_,XK _ _ ho,.of_isNs (PySem.W.isNs_of_in XK hok),PySem.W.nsMap_none_of_in XK hok hni,PySem.W.tail_of_in XK ht⟩
    . cases q
  . cases q
noncomputable def pL (EX:aO->aZ) (C:Addr) (t:yH):bJ:=fun _ ρ G=>t ρ G fun ds G1=>ds.length<=sizeLine/\EX ρ C G1
theorem awK (hc:X.calm=true) (Fn:ExcBaseFacts Bn newId inN bmN) (hBn:bmB.contains (.type Bn)=true) (FB:ExcBaseFacts B nid initId bmB) (hg:Gl X x) (hm:X.mg x=some (.ref C)) (hq:jf X.K C bmB newId=true) (hT:Thr X EX)
    (ha:PA3 X (e :: es) t) (hd:(x == ("__debug__" : Str))=false:=by decide)
    (he:starEach (e :: es) X.env=(false,eval e X.env) :: starEach es X.env:=by rfl) (hplain:(backTo cpos (starEach es X.env)).any (·.1)=false:=by rfl) :
    PS3 X (.Raise (some (.Call (.Name x np) (e :: es) [] cpos)) none pos) (pL EX C t):=by
  intro pins s σ H F I h;obtain ⟨ρ,G,E3,sr,g,q,dd⟩:=h;obtain ⟨tl,N,nm,q',bs,hdct,sn,sub,ab,col,dd',k0,k1,k2,k3,k5,mN,hC,hN,hni,T⟩:=a9G I.mod.kin hq
  refine wpAny_Raise_call_subU (C:=C) (nm:=nm) (q:=q') (N:=N) (bs:=bs) (bm:=tl) (hdct:=hdct) (sn:=sn) (sub:=sub) (ab:=ab) (col:=col) (dd:=dd') (k0:=k0) (k1:=k1) (k2:=k2) (k3:=k3) (k5:=k5)
    Fn hBn FB (mN:=mN) (T.hasType FB.hasBase) (I.ok.hd hc) (by rw [he];show (false || (backTo cpos (starEach es X.env)).any (·.1))=false;rw [hplain];rfl) hni (rT I hg hm ⟨rfl,?_⟩ hd)
  have hA:=ha cpos pins s σ H (fun vs H1=>Ts H H1/\∃ ds G1,cN X.K H1 ds vs/\HR X.K H1 G1/\ds.length<=sizeLine/\EX ρ C G1) I ⟨ρ,G,_,sr,g,q,fun vs H1 ds G1 t1 r1 g1 q1=>⟨t1,ds,G1,r1,g1,q1.1,q1.2⟩⟩;rw [he] at hA ⊢;refine Calls.evalArgs_plain (f9 hA fun us s2 ⟨vs,H2,I2,r2,t1,ds,G1,r1,g1,hl,q1⟩=>?_);exact ⟨rfl,by rw [← r2.length,← r1.length];exact hl,I2.bk _ _ hC,hN.keeps I2.bk,T.keeps I2.bk,fun h' e' hm'=>hT.made pins σ H2 s2 ρ C e' us h' I2 (sr.mono t1) hm' ⟨C,G1,rfl,g1,q1⟩⟩
end
end
variable {A:Around}{B:Heap}{E:Value->Shared->Prop}{M:Model}{Dc:Addr}
section
noncomputable def rB:aO->Nat->aO
  | [],_=>[]
  | _ :: r,0=>none :: r
  | x :: r,n+1=>x :: rB r n
noncomputable def yL:St->Nat->St
  | [],_=>[]
  | _ :: r,0=>none :: r
  | x :: r,n+1=>x :: yL r n
theorem SR.clr {K:Fg} {H:Hp}:∀ {ρ:aO} {σ:St} (i:Nat),SR K H ρ σ->SR K H (rB ρ i) (yL σ i)
  | _,_,_,.nil => .nil
  | _,_,0,.none r => .none r
  | _,_,0,.some _ r => .none r
  | _,_,i+1,.none r => .none (SR.clr i r)
  | _,_,i+1,.some h r => .some h (SR.clr i r)
theorem a5J:∀ (σ:St) (i:Nat),(yL σ i).length=σ.length
  | [],_=>rfl
  | _ :: _,0=>rfl
  | _ :: r,i+1=>congrArg (·+1) (a5J r i)
theorem a5K:∀ (σ:St) (i j:Nat) (v:V),(yL σ i)[j]?=some (some v)->j≠i/\σ[j]?=some (some v)
  | [],_,_,_,h=>by simp [yL] at h
  | _ :: _,0,0,_,h=>by simp [yL] at h
  | _ :: _,0,j+1,_,h=>⟨by omega,by simpa [yL] using h⟩
  | _ :: _,i+1,0,_,h=>⟨by omega,by simpa [yL] using h⟩
  | _ :: r,i+1,j+1,v,h=>by
    obtain ⟨a,b⟩:=a5K r i j v (by simpa [yL] using h);exact ⟨by omega,by simpa using b⟩
variable {x:Addr}{n:Str}
section
variable {X:Cx}
noncomputable def xeT (X:Cx) (EX:aO->aZ):Value->Shared->Prop:=fun e s'=>∃ pins σ H s ρ,Inv X pins σ H s/\SR X.K H ρ σ/\oJ X.prog X.w X.stack H s (a2Z X.K (EX ρ)) e s'
noncomputable abbrev awL (X:Cx) (pn:List (Addr×Obj)) (EX:aO->aZ):Cx:={ X with pn:=X.pn++pn,xe:=xeT { X with pn:=X.pn++pn } EX }
noncomputable abbrev aoA (X:Cx) (x:Addr):Cx:={ X with A:=X.A.mark (some (.ref x)),calm:=false,xe:=fun _ _=>False }
theorem aIT (ok:X.Ok) (pn:List (Addr×Obj)) (E:Value->Shared->Prop):({ X with pn:=pn,xe:=E }:Cx).Ok :=
  ⟨ok.mod,ok.kind,ok.glob,ok.blt,ok.above,ok.inj,ok.has,ok.cab,ok.hd,ok.frames,ok.stk,ok.exf,ok.bs,ok.bsz,ok.a8S,ok.a9Q,ok.vV,ok.frf⟩
theorem awM {σ:St} (I:Inv X pins σ H s) (E:Value->Shared->Prop):Inv ({ X with pn:=X.pn++pins,xe:=E }:Cx) [] σ H s :=
  ⟨aIT I.ok _ _,I.os,I.bare,I.base,I.loc,I.cell,I.free,I.m8,fun p hp=>I.pin p (by simpa using hp),I.hok,I.len,I.hnd,I.tup⟩
theorem wQ {a5B:List (Addr×Obj)} {σ:St} (I:Inv ({ X with pn:=X.pn++pins,xe:=E }:Cx) a5B σ H s):Inv X pins σ H s :=
  ⟨⟨I.ok.mod,I.ok.kind,I.ok.glob,I.ok.blt,I.ok.above,I.ok.inj,I.ok.has,I.ok.cab,I.ok.hd,I.ok.frames,I.ok.stk,I.ok.exf,I.ok.bs,I.ok.bsz,I.ok.a8S,I.ok.a9Q,I.ok.vV,I.ok.frf⟩,I.os,I.bare,I.base,I.loc,I.cell,I.free,I.m8,fun p hp=>I.pin p (vp _ hp),I.hok,I.len,I.hnd,I.tup⟩
theorem alV {σ:St} (I:Inv X pins σ H s) (x:Addr) (q:Hnd (X.A.mark (some (.ref x))) H):Inv (aoA X x) pins σ H s :=
  ⟨⟨I.ok.mod,I.ok.kind,I.ok.glob,I.ok.blt,I.ok.above,I.ok.inj,I.ok.has,I.ok.cab,(fun z=>nomatch z),I.ok.frames,I.ok.stk,I.ok.exf,I.ok.bs,I.ok.bsz,I.ok.a8S,I.ok.a9Q,I.ok.vV,I.ok.frf⟩,I.os,I.bare,I.base,I.loc,I.cell,I.free,I.m8,I.pin,I.hok,I.len,q,I.tup⟩
theorem a2B {σ:St} (ok:X.Ok) (hn:X.A.handled=none) (I:Inv (aoA X x) pins σ H s):Inv X pins σ H s :=
  ⟨ok,I.os,I.bare,I.base,I.loc,I.cell,I.free,I.m8,I.pin,I.hok,I.len,.inl hn,I.tup⟩
theorem aMY (pn:List (Addr×Obj)) (EX:aO->aZ):Cat (awL X pn EX) EX:=⟨fun pins σ H s ρ e s' I sr c =>
  ⟨pins,σ,H,s,ρ,⟨⟨I.ok.mod,I.ok.kind,I.ok.glob,I.ok.blt,I.ok.above,I.ok.inj,I.ok.has,I.ok.cab,I.ok.hd,I.ok.frames,I.ok.stk,I.ok.exf,I.ok.bs,I.ok.bsz,I.ok.a8S,I.ok.a9Q,I.ok.vV,I.ok.frf⟩,I.os,I.bare,I.base,I.loc,I.cell,I.free,I.m8,I.pin,I.hok,I.len,I.hnd,I.tup⟩,sr,c⟩⟩
theorem aCQ {P:Program} {w:World} {h2:Heap} (fl:Fly B l x (.ref C) s'.heap) (cov:∀ b o,s.heap.get? b=some o->H b=none->b ∉ frs l->B.get? b=some o)
    (ak9:∀ b o,s.heap.get? b=some o->b ∉ frs l->∃ o',B.get? b=some o') (un:Un (frs l) [] H H' s.heap s'.heap) (st:B.StaysIn h2) (up:s'.heap.UpToSlots h2):Un (frs l) [] H H' s.heap h2:=by
  have hfd:∀ b∈frs l,∀ o,s'.heap.get? b=some o->∀ vs,o.data ≠ .fields vs:=fun b hb o e=>by
    obtain ⟨_,o',ho',hd⟩:=fl.aB0.mem hb;rw [e] at ho';cases ho';exact hd
  refine ⟨fun b o eb nb hb _=>st b o (cov b o eb nb hb),fun b o eb nb hb hx=>?_,un.free,fun b o eb hx=>?_,un.tups,un.m7,un.uY⟩
  . obtain ⟨sl,e1⟩:=un.slot b o eb nb hb hx;obtain ⟨sl2,e2⟩:=up b _ e1 (hfd b hb _ e1);exact ⟨sl2,e2⟩
  . by_cases hb:b∈frs l
    . obtain ⟨o2,e2⟩:=un.there b o eb hx;obtain ⟨sl,e3⟩:=up b o2 e2 (hfd b hb o2 e2);exact ⟨_,e3⟩
    . obtain ⟨o2,e2⟩:=ak9 b o eb hb;exact ⟨o2,st b o2 e2⟩
theorem a9H {σ:St} {Q:Unit->Shared->Prop} (I:Inv X pins σ H s) (hN:X.N.Nodup) (hi:X.N[i]?=some n) (hl:X.env.kindOf n=some .local)
    (h:∀ s',Inv X pins (yL σ i) H s'->Q () s'):wpAny M A (do bindName X.env n .none;unbindBehindTheSuite X.env n pos) Q E s:=by
  obtain ⟨m,hn,hlo⟩:=id I.loc;have cne:=I.cne;refine wpAny_nameGoes_keeps hl hn (by rw [I.ok.kind];rfl) fun h' v hn' hs=>?_;obtain ⟨oL,_,_,hoL,_⟩:=id hn;refine h _ ⟨I.ok,I.os,I.bare,⟨fun b o e n hb hx=>?_,fun b o e n hb hx=>?_,I.base.free,fun b o e hx=>?_,I.base.tups,I.base.m7,I.base.uY⟩,⟨_,hn',fun j y v' e1 e2 e3=>?_⟩,fun y c e=>?_,I.free,I.m8,fun p hp=>?_,fun b ob e=>?_,(a5J σ i).trans I.len,I.hnd,I.tup⟩
  . exact (hs.2 b (dw (dz (bh e) I.ok.above))).trans (I.base.keep b o e n hb hx)
  . obtain ⟨sl,e1⟩:=I.base.slot b o e n hb hx;exact ⟨sl,(hs.2 b (dw (dz (bh e) I.ok.above))).trans e1⟩
  . obtain ⟨o',e1⟩:=I.base.there b o e hx;exact ⟨o',(hs.2 b (dw (dz (bh e) I.ok.above))).trans e1⟩
  . obtain ⟨hj,e2'⟩:=a5K σ i j v' e2;obtain ⟨u',r',q⟩:=hlo j y v' e1 e2' e3;refine ⟨u',r',?_⟩;rcases q with ⟨k,e⟩ | ⟨k,c,e,z⟩
    . refine .inl ⟨k,?_⟩;have:y≠n:=fun e=>hj (a9R hN e1 (e ▸ hi));simp [this,e]
    . exact .inr ⟨k,c,e,z.sameBut hs (cne y c e)⟩
  . obtain ⟨w',z⟩:=I.cell y c e;exact ⟨w',z.sameBut hs (cne y c e)⟩
  . obtain ⟨e,n,ne,nf,d⟩:=I.pin p hp;exact ⟨(hs.2 p.1 ne).trans e,n,ne,nf,d⟩
  . refine (I.hok b ob e).stay (fun c w' hc q=>(hs.2 c ?_).trans q) (fun _ q=>q) fun _ _ q=>q;rintro rfl;have hfree:=I.free;rcases hc with z | hc
    . rw [z,e] at hfree;cases hfree
    . rw [hfree] at hc;cases hc
theorem aMZ {K:Fg} {oe:Obj} {b:Bool} {Q:Bool->Shared->Prop} (KX:K.In s.heap) (he:s.heap.get? x=some oe) (hcls:oe.cls = .ref C)
    (hc:(jd K Dc).isSome=true) (ht:jh K (.ref Dc)=some (.type "type")) (hb:iy K (.ref Dc) (.type "BaseException")=some true) (hs:iy K (.ref C) (.ref Dc)=some b) (h:Q b s):wpAny M A (excMatches (.ref x) (.ref Dc)) Q E s:=by
  have l1:jz M s.heap (typeOf (.ref Dc)) (.type "type"):=PySem.W.looks_typeIn KX ht;have l2:jz M s.heap (isSubtype (.ref Dc) (.type "BaseException")) true:=PySem.W.looks_subIn KX hb;have l3:jz M s.heap (isSubtype (.ref C) (.ref Dc)) b:=PySem.W.looks_subIn KX hs
  have l4:jz M s.heap (typeOf (.ref x)) (.ref C):=by
    have z:=(jz.ld (M:=M) (part:=none) he).andThen (f:=fun o=>pure o.cls) (b := .ref C) (by rw [hcls];exact .now);exact z
  have l0:jz M s.heap (isSubtype (.type "type") (.type "tuple")) false := .of_pure tc_notTuple
  have lt:jz M s.heap (isType (.ref Dc)) true:=by
    intro A' Q' E' s' k q;cases eK:jd K Dc with
    | none=>rw [eK] at hc;cases hc
    | some cd =>
      unfold jd at eK;split at eK
      . rename_i ho;unfold isType loadHead;exact aj (wpAny_loadPart (k _ _ (KX _ _ ho)) (aq q))
      . cases eK
  unfold excMatches isInstance isExcClass
  repeat (first | with_reducible refine jz.here l0 ?_ | with_reducible refine jz.here l1 ?_ | with_reducible refine jz.here l2 ?_ | with_reducible refine jz.here l3 ?_ | with_reducible refine jz.here l4 ?_ | with_reducible refine jz.here lt ?_ | wp_step)
  cases b <;> (wp_walk;exact h)
noncomputable def agV (K:Fg) (Dc:Addr) (i:Nat) (tb:(aO->aZ)->bJ) (th:bJ):bJ:=fun F ρ G =>
  tb (fun ρ1 C G1=>iy K (.ref C) (.ref Dc)=some true/\∀ x,G1 x=none->th { nx:=fun ρ2 G2=>F.nx (rB ρ2 i) G2,rt:=F.rt,bk:=fun ρ2 G2=>F.bk (rB ρ2 i) G2,ct:=fun ρ2 G2=>F.ct (rB ρ2 i) G2 } (a5I ρ1 i (.ref x)) (aL G1 x (.exn C))) F ρ G
theorem aqN {EX:aO->aZ} {f:Flow} (h:SP (awL X pins EX) [] F f s):SP X pins F f s:=by
  cases f with
  | next=>obtain ⟨σ',H',I,q⟩:=h;exact ⟨σ',H',wQ I,q⟩
  | brk=>obtain ⟨σ',H',I,q⟩:=h;exact ⟨σ',H',wQ I,q⟩
  | cont=>obtain ⟨σ',H',I,q⟩:=h;exact ⟨σ',H',wQ I,q⟩
  | ret u=>obtain ⟨v,σ',H',I,r,q⟩:=h;exact ⟨v,σ',H',wQ I,r,q⟩
theorem agW {w:World} (hok:HOk P w H B) (n:B.get? x=none):H x=none:=by
  cases e0:H x with
  | none=>rfl
  | some o =>
    have lt:=(hok x o e0)
    obtain ⟨o',ho'⟩:∃ o',B.get? x=some o':=by
      cases o with
      | lst xs=>obtain ⟨_,_,_,_,e⟩:=lt;exact ⟨_,e⟩
      | tup xs=>obtain ⟨_,_,_,o,e,_⟩:=lt;exact ⟨_,e⟩
      | dK kvs=>obtain ⟨_,_,_,_,o,_,_,e,_⟩:=lt;exact ⟨_,e⟩
      | dT kvs=>obtain ⟨_,_,_,_,o,_,_,e,_⟩:=lt;exact ⟨_,e⟩
      | set S n=>obtain ⟨o,_,_,_,e,_⟩:=lt;exact ⟨_,e⟩
      | ins C dx fs=>obtain ⟨_,_,_,e,_⟩:=lt;exact ⟨_,e⟩
      | own y=>obtain ⟨_,e⟩:=lt;exact ⟨_,e⟩
      | xd fs=>obtain ⟨_,⟨_,_,_,e,_⟩,_⟩:=lt;exact ⟨_,e⟩
      | rng lo hi=>obtain ⟨_,_,_,e⟩:=lt;exact ⟨_,e⟩
      | lW ob u=>obtain ⟨e,_⟩:=lt;exact ⟨_,e⟩
      | tbl ps=>exact ⟨_,(show B.get? x=some _ from lt)⟩
      | met f y=>exact ⟨_,(show B.get? x=some _ from lt)⟩
      | ext φ=>obtain ⟨_,⟨_,e⟩,_⟩:=lt;exact ⟨_,e⟩
    rw [n] at ho';cases ho'
theorem aIU {body:List Stmt} {b₀:Stmt} {suite:List Stmt} {cx:Str} {tb:(aO->aZ)->bJ} {th:bJ} {cp hpos:Pos}
    (hcm:X.calm=true) (hN:X.N.Nodup) (hi:X.N[i]?=some n) (hl:X.env.kindOf n=some .local) (hst:X.stack=X.env :: X.outer) (hfn:X.env.frame=some X.env.locals)
    (hg:Gl X cx) (hm:X.mg cx=some (.ref Dc)) (hc:(jd X.K Dc).isSome=true) (ht:jh X.K (.ref Dc)=some (.type "type")) (hbx:iy X.K (.ref Dc) (.type "BaseException")=some true)
    (hb:∀ pn EX,a6Y (awL X pn EX) body (tb EX)) (hh:∀ x,a6Y (aoA X x) (b₀ :: suite) th) (hd:(cx == ("__debug__" : Str))=false:=by decide) :
    PS3 X (.Try body [.ExceptHandler (some (.Name cx cp)) (some n) (b₀ :: suite) hpos] [] [] pos) (agV X.K Dc i tb th):=by
  intro pins s σ H F I h;obtain ⟨ρ,G,E3,sr,g,q,d⟩:=h;refine wpAny_Try_except (wpAny_mono (hb pins _ [] s σ H F (awM I _) ⟨ρ,G,E3,sr,g,q,d⟩) (fun f s1 q1=>?_) fun e s1 q1=>?_)
  . have q2:=aqN q1;cases f with
    | next=>exact wpAny_execs_nil q2
    | brk=>exact q2
    | cont=>exact q2
    | ret u=>exact q2
  . obtain ⟨a5B,σ1,H1,s0,ρ1,I1,sr1,x,C,H',B,rfl,fl,hok,cov,ak9,un,os,bare,c,G',e2,g',hsub,hth⟩:=q1;cases e2;have J1:Inv X pins σ1 H1 s0:=wQ I1;have hn:X.A.handled=none:=I.ok.hd hcm;have hfr:X.A.frames=some (X.env :: X.outer):=by rw [← hst];exact I.ok.frames
    have fl':Fly B (X.env :: X.outer) x (.ref C) s1.heap:=by rw [← hst];exact fl
    refine alL (B:=B) hfr hfn fl' fun h4 aIV sm4=>?_;refine a9D aIV fun h5 fl5 sm5=>?_;have hxB:B.get? x=none:=fl.new;have nxH:H' x=none:=agW hok hxB
    have track:∀ (h6:Heap) (oe:Obj) (ws:Array Value),Fly B (X.env :: X.outer) x (.ref C) h6->s1.heap.UpToSlots h6->h6.get? x=some oe->oe.cls = .ref C->oe.data = .fields ws ->
        Inv X pins σ1 (upd H' x (.lW oe (.ext (a2Y C x)))) { s1 with heap:=h6 }/\Ts H1 (upd H' x (.lW oe (.ext (a2Y C x)))):=by
      intro h6 oe ws fl6 sm aoB aqO adM;have un6:=aCQ (P:=X.prog) (w:=X.w) fl cov ak9 un fl6.stays sm
      have nx0:s0.heap.get? x=none:=by
        cases e0:s0.heap.get? x with
        | none=>rfl
        | some o =>
          by_cases hx:x∈frs X.stack
          . obtain ⟨_,o',ho',hd'⟩:=fl6.aB0.mem (by rw [← hst];exact hx);rw [aoB] at ho';cases ho';exact absurd adM (hd' ws)
          . obtain ⟨o',ho'⟩:=ak9 x o e0 hx;rw [hxB] at ho';cases ho'
      have sn:Same H' (upd H' x (.lW oe (.ext (a2Y C x)))):=bU nxH;have nst:∀ b o,s0.heap.get? b=some o->b≠x:=fun b o e z=>by subst z;rw [nx0] at e;cases e
      have un7:Un (frs X.stack) [] H1 (upd H' x (.lW oe (.ext (a2Y C x)))) s0.heap h6:=⟨un6.keep,un6.slot,fun b o e n hx=>by rw [aX (nst b o e)];exact un6.free b o e n hx,un6.there,fun b xs z=>sn _ _ (un6.tups b xs z),fun b o u z=>sn _ _ (un6.m7 b o u z),fun b ps z=>by
        obtain ⟨m,e⟩:=un6.uY b ps z;exact ⟨m,sn _ _ e⟩⟩
      have aN2:HOk X.prog X.w (upd H' x (.lW oe (.ext (a2Y C x)))) h6:=fun b o e=>by
        by_cases hb:b=x
        . subst hb;rw [aJ] at e;cases e;refine ⟨aoB,⟨oe,ws,aoB,aqO,adM⟩,⟨oe,aoB⟩,fun h1 h2 ⟨o1,w1,e1,e2,e3⟩ k=>⟨o1,w1,k _ e1,e2,e3⟩⟩
        . rw [aX hb] at e;exact ((hok.kept fl6.stays) b o e).stay (fun _ _ _ z=>z) (fun c z=>sn _ _ z) fun c xs z=>sn _ _ z
      exact ⟨J1.call' (ch:=[]) (s':={ s1 with heap:=h6 }) os un7 aN2 bare (fun b z=>absurd z (by simp)),un7.tups,un7.m7⟩
    obtain ⟨oe,ws5,hoe,hoec,hoed,aN3⟩:=fl5.fld;obtain ⟨J5,_⟩:=track h5 oe ws5 fl5 (sm4.trans sm5) hoe hoec hoed;refine wpAny_handleBy_cons (codeAny_handlers_test ?_) (by intro q;cases q);refine rT (X:=aoA X x) (alV J5 x (.inr ⟨x,oe,_,ws5,rfl,aJ,hoed,aN3⟩)) hg hm ?_ hd;refine aMZ (K:=X.K) J5.kIn hoe hoec hc ht hbx hsub ?_;refine codeAny_handlers_suite_as ?_;refine a9D fl5 fun h6 fl6 sm6=>?_;obtain ⟨oe6,ws,aoB,aqO,adM,aA2⟩:=fl6.fld;obtain ⟨J7,tt⟩:=track h6 oe6 ws fl6 ((sm4.trans sm5).trans sm6) aoB aqO adM;have gx:G' x=none:=nQ (K:=X.K) g' nxH (wN (X:=X) J7);refine a9S (X:=aoA X x) (alV J7 x (.inr ⟨x,oe6,_,ws,rfl,aJ,adM,aA2⟩)) hN hi (.inl hl) (v := .ref x) (u := .ref x) rfl (fun s8 J8=>?_) (.inr hl);have q8:=hth x gx
    refine wpAny_mono (hh x pins s8 _ _ { nx:=fun σ2 H2=>F.nx (yL σ2 i) H2,rt:=F.rt,bk:=fun σ2 H2=>F.bk (yL σ2 i) H2,ct:=fun σ2 H2=>F.ct (yL σ2 i) H2 } J8
      ⟨a5I ρ1 i (.ref x),aL G' x (.exn C),_,(sr1.mono tt).set (.ref x) i,g'.put (u := .exn C) nxH ⟨oe6,ws,aJ,adM,aA2⟩,q8,⟨fun ρ2 G2 σ2 H2 s2 g2 z=>d.nx _ G2 _ H2 (s2.clr i) g2 z,d.rt,fun ρ2 G2 σ2 H2 s2 g2 z=>d.bk _ G2 _ H2 (s2.clr i) g2 z,fun ρ2 G2 σ2 H2 s2 g2 z=>d.ct _ G2 _ H2 (s2.clr i) g2 z⟩⟩) (fun f s9 q9=>?_) fun _ _ z=>z.elim
    cases f with
    | next=>obtain ⟨σ2,H2,I2,z⟩:=q9;exact a9H (a2B J7.ok hn I2) hN hi hl fun s10 I10=>⟨_,H2,I10,z⟩
    | brk=>obtain ⟨σ2,H2,I2,z⟩:=q9;exact a9H (a2B J7.ok hn I2) hN hi hl fun s10 I10=>⟨_,H2,I10,z⟩
    | cont=>obtain ⟨σ2,H2,I2,z⟩:=q9;exact a9H (a2B J7.ok hn I2) hN hi hl fun s10 I10=>⟨_,H2,I10,z⟩
    | ret u=>obtain ⟨v,σ2,H2,I2,r2,z⟩:=q9;exact a9H (a2B J7.ok hn I2) hN hi hl fun s10 I10=>⟨v,_,H2,I10,r2,z⟩
end
end
variable {vx vy:V}
section
section
variable {X:Cx} {a b c:Expr} {ta tb tc:cL} {pos:Pos}
noncomputable def agX (t:cL):cL:=fun ρ G R=>t ρ G fun x G1=>match x with
  | .int i=>R (.int (-i)) G1
  | _=>False
theorem aIW (ha:cR X a ta):cR X (.UnaryOp .USub a pos) (agX ta):=PE.imp (aHE aBT ha) fun σ H Q h=>by
  obtain ⟨ρ,G,R,s,g,t,k⟩:=h;refine ⟨ρ,G,_,s,g,t,fun v H1 x G1 t1 r g1 q=>?_⟩;cases r with
  | int i=>exact ⟨i,rfl,k _ H1 _ G1 t1 (.int _) g1 q⟩
  | _=>exact False.elim q
noncomputable def aQ:Nat->D->Bool
  | 0,.tup _=>false
  | n+1,.tup xs=>xs.all (aQ n)
  | _,.ref _=>false
  | _,.ty _=>false
  | _,_=>true
mutual
noncomputable def eqP:D->D->Bool
  | .non,.non=>true
  | .bl a,.bl b=>a == b
  | .bl a,.int b=>(if a then 1 else 0) == b
  | .int a,.bl b=>a == (if b then 1 else 0)
  | .int a,.int b=>a == b
  | .str a,.str b=>a == b
  | .tup xs,.tup ys=>rY xs ys
  | _,_=>false
noncomputable def rY:List D->List D->Bool
  | [],[]=>true
  | x :: xs,y :: ys=>eqP x y&&rY xs ys
  | _,_=>false
end
noncomputable def yM (xs ys:List D) (j:Nat):Bool:=match xs[j]?,ys[j]? with
  | some a,some b=>eqP a b
  | _,_=>false
theorem aa4 (n:Nat) (e:Nat->Bool):(ji (n+1)).all e=(e 0&&(ji n).all fun j=>e (j+1)):=by
  rw [List.range_succ_eq_map,qm,List.all_map];rfl
theorem oU:∀ (xs ys:List D),rY xs ys=((ji (min xs.length ys.length)).all (yM xs ys)&&xs.length == ys.length)
  | [],[]=>rfl
  | [],y :: ys=>by simp [rY]
  | x :: xs,[]=>by simp [rY]
  | x :: xs,y :: ys=>by
    have ih:=oU xs ys;have e:min (x :: xs).length (y :: ys).length=min xs.length ys.length+1:=by simp only [ju];omega
    rw [rY,ih,e,aa4];have e0:yM (x :: xs) (y :: ys) 0=eqP x y:=rfl
    have e1:(fun j=>yM (x :: xs) (y :: ys) (j+1))=yM xs ys:=by
      funext j;simp [yM]
    have e2:((x :: xs).length == (y :: ys).length)=(xs.length == ys.length):=by
      simp only [ju];by_cases h:xs.length=ys.length
      . simp [h]
      . have h':¬ (xs.length+1=ys.length+1):=by omega
        simp [h,h']
    rw [e0,e1,e2,Bool.and_assoc]
theorem agY {xs ys:List D} (h:(xs.length != ys.length)=true):rY xs ys=false:=by
  rw [oU];have:(xs.length == ys.length)=false:=by simpa using h
  rw [this,Bool.and_false]
theorem adN {xs ys:List D} (h:xs.length=ys.length):rY xs ys=(ji xs.length).all (yM xs ys):=by
  rw [oU,h];simp
mutual
theorem RD.inj {pins:List (Addr×Obj)} {σ:St} {H:Hp} {s:Shared} (I:Inv X pins σ H s):∀ {n:Nat} {x y:D} {v:V},aQ n x=true->aQ n y=true->RD X.K H x v->RD X.K H y v->x=y
  | _,_,_,_,_,_,.non,.non=>rfl
  | _,_,_,_,_,_,.bl _,.bl _=>rfl
  | _,_,_,_,_,_,.int _,.int _=>rfl
  | _,_,_,_,_,_,.str _,.str _=>rfl
  | _,_,_,_,hx,_,.ty _,.ty _=>rfl
  | _,_,_,_,_,_,.ref _,.ref _=>rfl
  | n,_,_,_,hx,_,.ref _,.tup _ _ _=>by cases n <;> simp [aQ] at hx
  | n,_,_,_,_,hy,.tup _ _ _,.ref _=>by cases n <;> simp [aQ] at hy
  | 0,_,_,_,hx,_,.tup _ _ _,.tup _ _ _=>by simp [aQ] at hx
  | n+1,_,_,_,hx,hy,.tup h1 r1 _,.tup h2 r2 _=>by
    have e:=I.a6R h1 h2;subst e;rw [cN.inj I (n:=n) (by simpa [aQ] using hx) (by simpa [aQ] using hy) r1 r2]
theorem cN.inj {pins:List (Addr×Obj)} {σ:St} {H:Hp} {s:Shared} (I:Inv X pins σ H s):∀ {n:Nat} {xs ys:List D} {vs:List V},(∀ x∈xs,aQ n x=true)->(∀ y∈ys,aQ n y=true)->cN X.K H xs vs->cN X.K H ys vs->xs=ys
  | _,_,_,_,_,_,.nil,.nil=>rfl
  | n,_,_,_,hx,hy,.cons h1 r1,.cons h2 r2=>by
    rw [RD.inj I (hx _ (by simp)) (hy _ (by simp)) h1 h2,cN.inj I (fun x m=>hx x (by simp [m])) (fun y m=>hy y (by simp [m])) r1 r2]
end
mutual
theorem agZ:∀ {n:Nat} {x:D},aQ n x=true->eqP x x=true
  | _,.non,_=>rfl
  | _,.bl b,_=>by simp [eqP]
  | _,.int b,_=>by simp [eqP]
  | _,.str b,_=>by simp [eqP]
  | n,.ref _,h=>by cases n <;> simp [aQ] at h
  | n,.ty _,h=>by cases n <;> simp [aQ] at h
  | 0,.tup _,h=>by simp [aQ] at h
  | n+1,.tup xs,h=>by rw [eqP];exact adO (n:=n) (by simpa [aQ] using h)
theorem adO:∀ {n:Nat} {xs:List D},(∀ x∈xs,aQ n x=true)->rY xs xs=true
  | _,[],_=>rfl
  | n,x :: xs,h=>by rw [rY,agZ (h x (by simp)),adO fun y m=>h y (by simp [m])];rfl
end
theorem Vals.aqQ {K:Fg} (r:cN K H ds xs) (v:Vals xs us) {j:Nat} (e:us[j]?=some u):∃ d x,ds[j]?=some d/\RD K H d x/\RelV x u:=by
  have hj:j < us.length:=(fj.mp e).1;have hj':j < xs.length:=by rw [v.length];exact hj
  have ex:xs[j]?=some xs[j]:=dg hj';obtain ⟨u',e1,r1⟩:=v.get ex;rw [e] at e1;cases e1;obtain ⟨d,e2,r2⟩:=r.awC ex;exact ⟨d,_,e2,r2,r1⟩
theorem a0C {K:Fg} {n:Nat} {xs ys:List D} {vx vy:List V} {ws:List Value} (rx:cN K H xs vx) (ry:cN K H ys vy) (vx':Vals vx us) (vy':Vals vy ws)
    (ih:∀ x∈xs,∀ y∈ys,∀ (v w:V) (u t:Value),RD K H x v->RD K H y w->RelV v u->RelV w t->SeqAt.EqAt A s u t (eqP x y)) :
    ∀ j (h1:j < us.toArray.size) (h2:j < ws.toArray.size),SeqAt.EqAt A s us.toArray[j] ws.toArray[j] (yM xs ys j):=by
  intro j h1 h2;have e1:us[j]?=some us.toArray[j]:=by simp [dg (show j < us.length by simpa using h1)]
  have e2:ws[j]?=some ws.toArray[j]:=by simp [dg (show j < ws.length by simpa using h2)]
  obtain ⟨d,x,f1,f2,f3⟩:=Vals.aqQ rx vx' e1;obtain ⟨d',y,g1,g2,g3⟩:=Vals.aqQ ry vy' e2;have e:yM xs ys j=eqP d d':=by simp [yM,f1,g1]
  rw [e];exact ih d (je f1) d' (je g1) x y _ _ f2 g2 f3 g3
noncomputable def scD:D->Bool
  | .non=>true
  | .bl _=>true
  | .int _=>true
  | .str _=>true
  | _=>false
theorem awN {K:Fg} {x y:D} {v:Value} (hx:scD x=true) (hy:scD y=true) (rx:RD K H x vx) (ry:RD K H y vy) (ru:RelV vx u) (rv:RelV vy v):SeqAt.EqAt A s u v (eqP x y):=by
  have fx:zP vx=true:=by cases rx <;> first | rfl | cases hx
  have fy:zP vy=true:=by cases ry <;> first | rfl | cases hy
  have e:eqV vx vy=eqP x y:=by cases rx <;> cases ry <;> first | (simp [eqV,eqP];done) | cases hx | cases hy
  rw [← e];exact a6X ru rv fx fy
theorem a0D (h:A.units+(n+1) < cLine):A.in1.units+n < cLine:=by
  show A.units+1+n < cLine;omega
theorem aa5 {σ:St} (I:Inv X pins σ H s):∀ (n:Nat) (A:Around) (x y:D) (vx vy:V) (u v:Value),A.units+n < cLine->aQ n x=true->aQ n y=true->RD X.K H x vx->RD X.K H y vy->RelV vx u->RelV vy v->SeqAt.EqAt A s u v (eqP x y):=by
  intro n
  induction n with
  | zero =>
    intro A x y vx vy u v hu hx hy rx ry ru rv;have sx:scD x=true:=by cases x <;> first | rfl | (simp [aQ] at hx)
    have sy:scD y=true:=by cases y <;> first | rfl | (simp [aQ] at hy)
    exact awN sx sy rx ry ru rv
  | succ n ih =>
    intro A x y vx vy u v hu hx hy rx ry ru rv;have hu0:A.units < cLine:=by omega
    cases rx with
    | @tup ax xs ds hax rax eax =>
      cases ru;obtain ⟨its,vv,px,_⟩:=I.tuple hax;cases ry with
      | @tup ay ys es hay ray eay =>
        cases rv;obtain ⟨jts,ww,py,_⟩:=I.tuple hay;by_cases hab:ax=ay
        . subst hab;have e:=RD.inj I (n:=n+1) hx hy (.tup hax rax eax) (.tup hay ray eay);rw [e,agZ hy];exact SeqAt.EqAt.same _
        . refine SeqAt.EqAt.of_refs hab ?_
          have z:=SeqAt.RcAt.tuples (e:=yM ds es) (show s.heap.IsTuple ax its.toArray from px) (show s.heap.IsTuple ay jts.toArray from py) hu0 (a0C (n:=n) rax ray vv ww fun x mx y my v w u t r1 r2 r3 r4 =>
            ih A.in1 x y v w u t (a0D hu) (iu.mp (by simpa [aQ] using hx) x mx) (iu.mp (by simpa [aQ] using hy) y my) r1 r2 r3 r4)
          have e:((ji (min its.toArray.size jts.toArray.size)).all (yM ds es)&&its.toArray.size == jts.toArray.size)=eqP (.tup ds) (.tup es):=by
            rw [eqP,oU,bw,bw,← vv.length,← ww.length,← rax.length,← ray.length]
          rw [e] at z;exact z
      | non=>cases rv;exact SeqAt.EqAt.tuple_none (show s.heap.IsTuple ax its.toArray from px) hu0
      | bl b=>cases rv;exact SeqAt.EqAt.tuple_bool b (show s.heap.IsTuple ax its.toArray from px) hu0
      | int i=>obtain ⟨t,rfl⟩:=rv;exact SeqAt.EqAt.tuple_int i t (show s.heap.IsTuple ax its.toArray from px) hu0
      | str z=>obtain ⟨t,rfl⟩:=rv;exact SeqAt.EqAt.tuple_str z t (show s.heap.IsTuple ax its.toArray from px) hu0
      | ref _=>simp [aQ] at hy
      | ty _=>simp [aQ] at hy
    | ref _=>simp [aQ] at hx
    | ty _=>simp [aQ] at hx
    | non =>
      cases ry with
      | @tup ay ys es hay ray =>
        cases rv;cases ru;obtain ⟨jts,ww,py,_⟩:=I.tuple hay;exact SeqAt.EqAt.none_tuple (show s.heap.IsTuple ay jts.toArray from py) hu0
      | ref _=>simp [aQ] at hy
      | ty _=>simp [aQ] at hy
      | _=>exact a6X ru rv rfl rfl
    | bl b =>
      cases ry with
      | @tup ay ys es hay ray =>
        cases rv;cases ru;obtain ⟨jts,ww,py,_⟩:=I.tuple hay;exact SeqAt.EqAt.bool_tuple b (show s.heap.IsTuple ay jts.toArray from py) hu0
      | ref _=>simp [aQ] at hy
      | ty _=>simp [aQ] at hy
      | _=>exact a6X ru rv rfl rfl
    | int i =>
      cases ry with
      | @tup ay ys es hay ray =>
        cases rv;obtain ⟨t,rfl⟩:=ru;obtain ⟨jts,ww,py,_⟩:=I.tuple hay;exact SeqAt.EqAt.int_tuple i t (show s.heap.IsTuple ay jts.toArray from py) hu0
      | ref _=>simp [aQ] at hy
      | ty _=>simp [aQ] at hy
      | _=>exact a6X ru rv rfl rfl
    | str z =>
      cases ry with
      | @tup ay ys es hay ray =>
        cases rv;obtain ⟨t,rfl⟩:=ru;obtain ⟨jts,ww,py,_⟩:=I.tuple hay;exact SeqAt.EqAt.str_tuple z t (show s.heap.IsTuple ay jts.toArray from py) hu0
      | ref _=>simp [aQ] at hy
      | ty _=>simp [aQ] at hy
      | _=>exact a6X ru rv rfl rfl
end
end
variable {a1 a2:Addr}
section
section
variable {X:Cx}
theorem aN6 {σ:St} (I:Inv X pins σ H s) (n:Nat) (A:Around) (x y:D) (vx vy:V) (u v:Value) (hu:A.units+(n+1) < cLine) (hx:aQ (n+1) x=true) (hy:aQ (n+1) y=true) (rx:RD X.K H x vx) (ry:RD X.K H y vy) (ru:RelV vx u) (rv:RelV vy v):SeqAt.RcAt A s u v (eqP x y):=by
  have hu0:A.units < cLine:=by omega
  cases rx with
  | non =>
    cases ru;cases ry with
    | non =>
      cases rv
      first | exact SeqAt.RcAt.none_none | (simp only [eqP];exact SeqAt.RcAt.none_none)
    | bl b2 =>
      cases rv
      first | exact SeqAt.RcAt.none_bool b2 | (simp only [eqP];exact SeqAt.RcAt.none_bool b2)
    | int i2 =>
      obtain ⟨t2,rfl⟩:=rv
      first | exact SeqAt.RcAt.none_int i2 t2 | (simp only [eqP];exact SeqAt.RcAt.none_int i2 t2)
    | str z2 =>
      obtain ⟨t2,rfl⟩:=rv
      first | exact SeqAt.RcAt.none_str z2 t2 | (simp only [eqP];exact SeqAt.RcAt.none_str z2 t2)
    | @tup a2 xs2 vX h2 r2 =>
      cases rv;obtain ⟨its2,vv2,p2,_⟩:=I.tuple h2
      first | exact SeqAt.RcAt.none_tuple (show s.heap.IsTuple a2 its2.toArray from p2) hu0 | (simp only [eqP];exact SeqAt.RcAt.none_tuple (show s.heap.IsTuple a2 its2.toArray from p2) hu0)
    | ref _=>simp [aQ] at hy
    | ty _=>simp [aQ] at hy
  | bl b1 =>
    cases ru;cases ry with
    | non =>
      cases rv
      first | exact SeqAt.RcAt.bool_none b1 | (simp only [eqP];exact SeqAt.RcAt.bool_none b1)
    | bl b2 =>
      cases rv
      first | exact SeqAt.RcAt.bool_bool b1 b2 | (simp only [eqP];exact SeqAt.RcAt.bool_bool b1 b2)
    | int i2 =>
      obtain ⟨t2,rfl⟩:=rv
      first | exact SeqAt.RcAt.bool_int b1 i2 t2 | (simp only [eqP];exact SeqAt.RcAt.bool_int b1 i2 t2)
    | str z2 =>
      obtain ⟨t2,rfl⟩:=rv
      first | exact SeqAt.RcAt.bool_str b1 z2 t2 | (simp only [eqP];exact SeqAt.RcAt.bool_str b1 z2 t2)
    | @tup a2 xs2 vX h2 r2 =>
      cases rv;obtain ⟨its2,vv2,p2,_⟩:=I.tuple h2
      first | exact SeqAt.RcAt.bool_tuple b1 (show s.heap.IsTuple a2 its2.toArray from p2) hu0 | (simp only [eqP];exact SeqAt.RcAt.bool_tuple b1 (show s.heap.IsTuple a2 its2.toArray from p2) hu0)
    | ref _=>simp [aQ] at hy
    | ty _=>simp [aQ] at hy
  | int i1 =>
    obtain ⟨t1,rfl⟩:=ru;cases ry with
    | non =>
      cases rv
      first | exact SeqAt.RcAt.int_none i1 t1 | (simp only [eqP];exact SeqAt.RcAt.int_none i1 t1)
    | bl b2 =>
      cases rv
      first | exact SeqAt.RcAt.int_bool i1 t1 b2 | (simp only [eqP];exact SeqAt.RcAt.int_bool i1 t1 b2)
    | int i2 =>
      obtain ⟨t2,rfl⟩:=rv
      first | exact SeqAt.RcAt.int_int i1 t1 i2 t2 | (simp only [eqP];exact SeqAt.RcAt.int_int i1 t1 i2 t2)
    | str z2 =>
      obtain ⟨t2,rfl⟩:=rv
      first | exact SeqAt.RcAt.int_str i1 t1 z2 t2 | (simp only [eqP];exact SeqAt.RcAt.int_str i1 t1 z2 t2)
    | @tup a2 xs2 vX h2 r2 =>
      cases rv;obtain ⟨its2,vv2,p2,_⟩:=I.tuple h2
      first | exact SeqAt.RcAt.int_tuple i1 t1 (show s.heap.IsTuple a2 its2.toArray from p2) hu0 | (simp only [eqP];exact SeqAt.RcAt.int_tuple i1 t1 (show s.heap.IsTuple a2 its2.toArray from p2) hu0)
    | ref _=>simp [aQ] at hy
    | ty _=>simp [aQ] at hy
  | str z1 =>
    obtain ⟨t1,rfl⟩:=ru;cases ry with
    | non =>
      cases rv
      first | exact SeqAt.RcAt.str_none z1 t1 | (simp only [eqP];exact SeqAt.RcAt.str_none z1 t1)
    | bl b2 =>
      cases rv
      first | exact SeqAt.RcAt.str_bool z1 t1 b2 | (simp only [eqP];exact SeqAt.RcAt.str_bool z1 t1 b2)
    | int i2 =>
      obtain ⟨t2,rfl⟩:=rv
      first | exact SeqAt.RcAt.str_int z1 t1 i2 t2 | (simp only [eqP];exact SeqAt.RcAt.str_int z1 t1 i2 t2)
    | str z2 =>
      obtain ⟨t2,rfl⟩:=rv
      first | exact SeqAt.RcAt.str_str z1 t1 z2 t2 | (simp only [eqP];exact SeqAt.RcAt.str_str z1 t1 z2 t2)
    | @tup a2 xs2 vX h2 r2 =>
      cases rv;obtain ⟨its2,vv2,p2,_⟩:=I.tuple h2
      first | exact SeqAt.RcAt.str_tuple z1 t1 (show s.heap.IsTuple a2 its2.toArray from p2) hu0 | (simp only [eqP];exact SeqAt.RcAt.str_tuple z1 t1 (show s.heap.IsTuple a2 its2.toArray from p2) hu0)
    | ref _=>simp [aQ] at hy
    | ty _=>simp [aQ] at hy
  | @tup a1 xs1 ds1 h1 r1 =>
    cases ru;obtain ⟨gW,vv1,p1,_⟩:=I.tuple h1;cases ry with
    | non =>
      cases rv
      first | exact SeqAt.RcAt.tuple_none (show s.heap.IsTuple a1 gW.toArray from p1) hu0 | (simp only [eqP];exact SeqAt.RcAt.tuple_none (show s.heap.IsTuple a1 gW.toArray from p1) hu0)
    | bl b2 =>
      cases rv
      first | exact SeqAt.RcAt.tuple_bool b2 (show s.heap.IsTuple a1 gW.toArray from p1) hu0 | (simp only [eqP];exact SeqAt.RcAt.tuple_bool b2 (show s.heap.IsTuple a1 gW.toArray from p1) hu0)
    | int i2 =>
      obtain ⟨t2,rfl⟩:=rv
      first | exact SeqAt.RcAt.tuple_int i2 t2 (show s.heap.IsTuple a1 gW.toArray from p1) hu0 | (simp only [eqP];exact SeqAt.RcAt.tuple_int i2 t2 (show s.heap.IsTuple a1 gW.toArray from p1) hu0)
    | str z2 =>
      obtain ⟨t2,rfl⟩:=rv
      first | exact SeqAt.RcAt.tuple_str z2 t2 (show s.heap.IsTuple a1 gW.toArray from p1) hu0 | (simp only [eqP];exact SeqAt.RcAt.tuple_str z2 t2 (show s.heap.IsTuple a1 gW.toArray from p1) hu0)
    | @tup a2 xs2 vX h2 r2 =>
      cases rv;obtain ⟨its2,vv2,p2,_⟩:=I.tuple h2
      have z:=SeqAt.RcAt.tuples (e:=yM ds1 vX) (show s.heap.IsTuple a1 gW.toArray from p1) (show s.heap.IsTuple a2 its2.toArray from p2) hu0 (a0C (n:=n) r1 r2 vv1 vv2 fun x mx y my v w u t q1 q2 q3 q4 =>
            aa5 I n A.in1 x y v w u t (a0D hu) (iu.mp (by simpa [aQ] using hx) x mx) (iu.mp (by simpa [aQ] using hy) y my) q1 q2 q3 q4)
      have e:((ji (min gW.toArray.size its2.toArray.size)).all (yM ds1 vX)&&gW.toArray.size == its2.toArray.size)=eqP (.tup ds1) (.tup vX):=by
        rw [eqP,oU,bw,bw,← vv1.length,← vv2.length,← r1.length,← r2.length]
      rw [e] at z;exact z
    | ref _=>simp [aQ] at hy
    | ty _=>simp [aQ] at hy
  | ref _=>simp [aQ] at hx
  | ty _=>simp [aQ] at hx
theorem aN7 {σ:St} (I:Inv X pins σ H s) (n:Nat) (A:Around) (hl:SqL X.K H a1 xs) (y:D) (vy:V) (v:Value) (hu0:A.units < cLine) (hy:aQ n y=true) (ry:RD X.K H y vy) (rv:RelV vy v):SeqAt.RcAt A s (.ref a1) v false:=by
  obtain ⟨gW,vv1,pl,_⟩:=I.list hl;have p1:=pl.isList;cases ry with
  | non =>
    cases rv;exact SeqAt.RcAt.list_none p1 hu0
  | bl b2 =>
    cases rv;exact SeqAt.RcAt.list_bool b2 p1 hu0
  | int i2 =>
    obtain ⟨t2,rfl⟩:=rv;exact SeqAt.RcAt.list_int i2 t2 p1 hu0
  | str z2 =>
    obtain ⟨t2,rfl⟩:=rv;exact SeqAt.RcAt.list_str z2 t2 p1 hu0
  | @tup a2 xs2 vX h2 r2 =>
    cases rv;obtain ⟨its2,vv2,p2,_⟩:=I.tuple h2;exact SeqAt.RcAt.list_tuple (show s.heap.IsList a1 gW.toArray from p1) (show s.heap.IsTuple a2 its2.toArray from p2) hu0
  | ref _=>cases n <;> simp [aQ] at hy
  | ty _=>cases n <;> simp [aQ] at hy
theorem aN8 {σ:St} (I:Inv X pins σ H s) (n:Nat) (A:Around) (hl:SqL X.K H a2 xs) (y:D) (vy:V) (v:Value) (hu0:A.units < cLine) (hy:aQ n y=true) (ry:RD X.K H y vy) (rv:RelV vy v):SeqAt.RcAt A s v (.ref a2) false:=by
  obtain ⟨its2,vv2,pl,_⟩:=I.list hl;have p2:=pl.isList;cases ry with
  | non =>
    cases rv;exact SeqAt.RcAt.none_list p2 hu0
  | bl b1 =>
    cases rv;exact SeqAt.RcAt.bool_list b1 p2 hu0
  | int i1 =>
    obtain ⟨t1,rfl⟩:=rv;exact SeqAt.RcAt.int_list i1 t1 p2 hu0
  | str z1 =>
    obtain ⟨t1,rfl⟩:=rv;exact SeqAt.RcAt.str_list z1 t1 p2 hu0
  | @tup a1 xs1 ds1 h1 r1 =>
    cases rv;obtain ⟨gW,vv1,p1,_⟩:=I.tuple h1;exact SeqAt.RcAt.tuple_list (show s.heap.IsTuple a1 gW.toArray from p1) (show s.heap.IsList a2 its2.toArray from p2) hu0
  | ref _=>cases n <;> simp [aQ] at hy
  | ty _=>cases n <;> simp [aQ] at hy
theorem aN9 {σ:St} (I:Inv X pins σ H s) (n:Nat) (A:Around) {xs1 xs2:List V} {ds1 vX:List D} (h1:SqL X.K H a1 xs1) (h2:SqL X.K H a2 xs2) (r1:cN X.K H ds1 xs1) (r2:cN X.K H vX xs2)
    (hu:A.units+(n+1) < cLine) (hx:ds1.all (aQ n)=true) (hy:vX.all (aQ n)=true):SeqAt.RcAt A s (.ref a1) (.ref a2) (rY ds1 vX):=by
  have hu0:A.units < cLine:=by omega
  obtain ⟨gW,vv1,q1,_⟩:=I.list h1;obtain ⟨its2,vv2,q2,_⟩:=I.list h2;have p1:=q1.isList;have p2:=q2.isList;by_cases hl:ds1.length=vX.length
  . have hsz:gW.toArray.size=its2.toArray.size:=by rw [bw,bw,← vv1.length,← vv2.length,← r1.length,← r2.length];exact hl
    have z:=SeqAt.RcAt.lists (e:=yM ds1 vX) p1 p2 hsz hu0 (a0C (n:=n) r1 r2 vv1 vv2 fun x mx y my v w u t q1 q2 q3 q4 =>
            aa5 I n A.in1 x y v w u t (a0D hu) (iu.mp hx x mx) (iu.mp hy y my) q1 q2 q3 q4)
    have e:(ji gW.toArray.size).all (yM ds1 vX)=rY ds1 vX:=by rw [adN hl,bw,← vv1.length,← r1.length]
    rw [e] at z;exact z
  . have hne:(gW.toArray.size != its2.toArray.size)=true:=by rw [bw,bw,← vv1.length,← vv2.length,← r1.length,← r2.length];simpa using hl
    have e:rY ds1 vX=false:=agY (by simpa using hl);rw [e];exact SeqAt.RcAt.lists_lengths p1 p2 hne hu0
theorem aCT {σ:St} (I:Inv X pins σ H s) (n:Nat) (A:Around) (x y:D) (vx vy:V) (u v:Value) (hu:A.units+(n+1) < cLine) (hx:aQ (n+1) x=true) (hy:aQ (n+1) y=true) (rx:RD X.K H x vx) (ry:RD X.K H y vy) (ru:RelV vx u) (rv:RelV vy v):SeqAt.RcNeAt A s u v (!eqP x y):=by
  have hu0:A.units < cLine:=by omega
  cases rx with
  | non =>
    cases ru;cases ry with
    | non =>
      cases rv
      first | exact SeqAt.RcNeAt.none_none | (simp only [eqP];exact SeqAt.RcNeAt.none_none)
    | bl b2 =>
      cases rv
      first | exact SeqAt.RcNeAt.none_bool b2 | (simp only [eqP];exact SeqAt.RcNeAt.none_bool b2)
    | int i2 =>
      obtain ⟨t2,rfl⟩:=rv
      first | exact SeqAt.RcNeAt.none_int i2 t2 | (simp only [eqP];exact SeqAt.RcNeAt.none_int i2 t2)
    | str z2 =>
      obtain ⟨t2,rfl⟩:=rv
      first | exact SeqAt.RcNeAt.none_str z2 t2 | (simp only [eqP];exact SeqAt.RcNeAt.none_str z2 t2)
    | @tup a2 xs2 vX h2 r2 =>
      cases rv;obtain ⟨its2,vv2,p2,_⟩:=I.tuple h2
      first | exact SeqAt.RcNeAt.none_tuple (show s.heap.IsTuple a2 its2.toArray from p2) hu0 | (simp only [eqP];exact SeqAt.RcNeAt.none_tuple (show s.heap.IsTuple a2 its2.toArray from p2) hu0)
    | ref _=>simp [aQ] at hy
    | ty _=>simp [aQ] at hy
  | bl b1 =>
    cases ru;cases ry with
    | non =>
      cases rv
      first | exact SeqAt.RcNeAt.bool_none b1 | (simp only [eqP];exact SeqAt.RcNeAt.bool_none b1)
    | bl b2 =>
      cases rv
      first | exact SeqAt.RcNeAt.bool_bool b1 b2 | (simp only [eqP];exact SeqAt.RcNeAt.bool_bool b1 b2)
    | int i2 =>
      obtain ⟨t2,rfl⟩:=rv
      first | exact SeqAt.RcNeAt.bool_int b1 i2 t2 | (simp only [eqP];exact SeqAt.RcNeAt.bool_int b1 i2 t2)
    | str z2 =>
      obtain ⟨t2,rfl⟩:=rv
      first | exact SeqAt.RcNeAt.bool_str b1 z2 t2 | (simp only [eqP];exact SeqAt.RcNeAt.bool_str b1 z2 t2)
    | @tup a2 xs2 vX h2 r2 =>
      cases rv;obtain ⟨its2,vv2,p2,_⟩:=I.tuple h2
      first | exact SeqAt.RcNeAt.bool_tuple b1 (show s.heap.IsTuple a2 its2.toArray from p2) hu0 | (simp only [eqP];exact SeqAt.RcNeAt.bool_tuple b1 (show s.heap.IsTuple a2 its2.toArray from p2) hu0)
    | ref _=>simp [aQ] at hy
    | ty _=>simp [aQ] at hy
  | int i1 =>
    obtain ⟨t1,rfl⟩:=ru;cases ry with
    | non =>
      cases rv
      first | exact SeqAt.RcNeAt.int_none i1 t1 | (simp only [eqP];exact SeqAt.RcNeAt.int_none i1 t1)
    | bl b2 =>
      cases rv
      first | exact SeqAt.RcNeAt.int_bool i1 t1 b2 | (simp only [eqP];exact SeqAt.RcNeAt.int_bool i1 t1 b2)
    | int i2 =>
      obtain ⟨t2,rfl⟩:=rv
      first | exact SeqAt.RcNeAt.int_int i1 t1 i2 t2 | (simp only [eqP];exact SeqAt.RcNeAt.int_int i1 t1 i2 t2)
    | str z2 =>
      obtain ⟨t2,rfl⟩:=rv
      first | exact SeqAt.RcNeAt.int_str i1 t1 z2 t2 | (simp only [eqP];exact SeqAt.RcNeAt.int_str i1 t1 z2 t2)
    | @tup a2 xs2 vX h2 r2 =>
      cases rv;obtain ⟨its2,vv2,p2,_⟩:=I.tuple h2
      first | exact SeqAt.RcNeAt.int_tuple i1 t1 (show s.heap.IsTuple a2 its2.toArray from p2) hu0 | (simp only [eqP];exact SeqAt.RcNeAt.int_tuple i1 t1 (show s.heap.IsTuple a2 its2.toArray from p2) hu0)
    | ref _=>simp [aQ] at hy
    | ty _=>simp [aQ] at hy
  | str z1 =>
    obtain ⟨t1,rfl⟩:=ru;cases ry with
    | non =>
      cases rv
      first | exact SeqAt.RcNeAt.str_none z1 t1 | (simp only [eqP];exact SeqAt.RcNeAt.str_none z1 t1)
    | bl b2 =>
      cases rv
      first | exact SeqAt.RcNeAt.str_bool z1 t1 b2 | (simp only [eqP];exact SeqAt.RcNeAt.str_bool z1 t1 b2)
    | int i2 =>
      obtain ⟨t2,rfl⟩:=rv
      first | exact SeqAt.RcNeAt.str_int z1 t1 i2 t2 | (simp only [eqP];exact SeqAt.RcNeAt.str_int z1 t1 i2 t2)
    | str z2 =>
      obtain ⟨t2,rfl⟩:=rv
      first | exact SeqAt.RcNeAt.str_str z1 t1 z2 t2 | (simp only [eqP];exact SeqAt.RcNeAt.str_str z1 t1 z2 t2)
    | @tup a2 xs2 vX h2 r2 =>
      cases rv;obtain ⟨its2,vv2,p2,_⟩:=I.tuple h2
      first | exact SeqAt.RcNeAt.str_tuple z1 t1 (show s.heap.IsTuple a2 its2.toArray from p2) hu0 | (simp only [eqP];exact SeqAt.RcNeAt.str_tuple z1 t1 (show s.heap.IsTuple a2 its2.toArray from p2) hu0)
    | ref _=>simp [aQ] at hy
    | ty _=>simp [aQ] at hy
  | @tup a1 xs1 ds1 h1 r1 =>
    cases ru;obtain ⟨gW,vv1,p1,_⟩:=I.tuple h1;cases ry with
    | non =>
      cases rv
      first | exact SeqAt.RcNeAt.tuple_none (show s.heap.IsTuple a1 gW.toArray from p1) hu0 | (simp only [eqP];exact SeqAt.RcNeAt.tuple_none (show s.heap.IsTuple a1 gW.toArray from p1) hu0)
    | bl b2 =>
      cases rv
      first | exact SeqAt.RcNeAt.tuple_bool b2 (show s.heap.IsTuple a1 gW.toArray from p1) hu0 | (simp only [eqP];exact SeqAt.RcNeAt.tuple_bool b2 (show s.heap.IsTuple a1 gW.toArray from p1) hu0)
    | int i2 =>
      obtain ⟨t2,rfl⟩:=rv
      first | exact SeqAt.RcNeAt.tuple_int i2 t2 (show s.heap.IsTuple a1 gW.toArray from p1) hu0 | (simp only [eqP];exact SeqAt.RcNeAt.tuple_int i2 t2 (show s.heap.IsTuple a1 gW.toArray from p1) hu0)
    | str z2 =>
      obtain ⟨t2,rfl⟩:=rv
      first | exact SeqAt.RcNeAt.tuple_str z2 t2 (show s.heap.IsTuple a1 gW.toArray from p1) hu0 | (simp only [eqP];exact SeqAt.RcNeAt.tuple_str z2 t2 (show s.heap.IsTuple a1 gW.toArray from p1) hu0)
    | @tup a2 xs2 vX h2 r2 =>
      cases rv;obtain ⟨its2,vv2,p2,_⟩:=I.tuple h2
      have z:=SeqAt.RcNeAt.tuples (e:=yM ds1 vX) (show s.heap.IsTuple a1 gW.toArray from p1) (show s.heap.IsTuple a2 its2.toArray from p2) hu0 (a0C (n:=n) r1 r2 vv1 vv2 fun x mx y my v w u t q1 q2 q3 q4 =>
            aa5 I n A.in1 x y v w u t (a0D hu) (iu.mp (by simpa [aQ] using hx) x mx) (iu.mp (by simpa [aQ] using hy) y my) q1 q2 q3 q4)
      have e:((ji (min gW.toArray.size its2.toArray.size)).all (yM ds1 vX)&&gW.toArray.size == its2.toArray.size)=eqP (.tup ds1) (.tup vX):=by
        rw [eqP,oU,bw,bw,← vv1.length,← vv2.length,← r1.length,← r2.length]
      rw [e] at z;exact z
    | ref _=>simp [aQ] at hy
    | ty _=>simp [aQ] at hy
  | ref _=>simp [aQ] at hx
  | ty _=>simp [aQ] at hx
theorem aCU {σ:St} (I:Inv X pins σ H s) (n:Nat) (A:Around) (hl:SqL X.K H a1 xs) (y:D) (vy:V) (v:Value) (hu0:A.units < cLine) (hy:aQ n y=true) (ry:RD X.K H y vy) (rv:RelV vy v):SeqAt.RcNeAt A s (.ref a1) v true:=by
  obtain ⟨gW,vv1,pl,_⟩:=I.list hl;have p1:=pl.isList;cases ry with
  | non =>
    cases rv;exact SeqAt.RcNeAt.list_none p1 hu0
  | bl b2 =>
    cases rv;exact SeqAt.RcNeAt.list_bool b2 p1 hu0
  | int i2 =>
    obtain ⟨t2,rfl⟩:=rv;exact SeqAt.RcNeAt.list_int i2 t2 p1 hu0
  | str z2 =>
    obtain ⟨t2,rfl⟩:=rv;exact SeqAt.RcNeAt.list_str z2 t2 p1 hu0
  | @tup a2 xs2 vX h2 r2 =>
    cases rv;obtain ⟨its2,vv2,p2,_⟩:=I.tuple h2;exact SeqAt.RcNeAt.list_tuple (show s.heap.IsList a1 gW.toArray from p1) (show s.heap.IsTuple a2 its2.toArray from p2) hu0
  | ref _=>cases n <;> simp [aQ] at hy
  | ty _=>cases n <;> simp [aQ] at hy
theorem aCV {σ:St} (I:Inv X pins σ H s) (n:Nat) (A:Around) (hl:SqL X.K H a2 xs) (y:D) (vy:V) (v:Value) (hu0:A.units < cLine) (hy:aQ n y=true) (ry:RD X.K H y vy) (rv:RelV vy v):SeqAt.RcNeAt A s v (.ref a2) true:=by
  obtain ⟨its2,vv2,pl,_⟩:=I.list hl;have p2:=pl.isList;cases ry with
  | non =>
    cases rv;exact SeqAt.RcNeAt.none_list p2 hu0
  | bl b1 =>
    cases rv;exact SeqAt.RcNeAt.bool_list b1 p2 hu0
  | int i1 =>
    obtain ⟨t1,rfl⟩:=rv;exact SeqAt.RcNeAt.int_list i1 t1 p2 hu0
  | str z1 =>
    obtain ⟨t1,rfl⟩:=rv;exact SeqAt.RcNeAt.str_list z1 t1 p2 hu0
  | @tup a1 xs1 ds1 h1 r1 =>
    cases rv;obtain ⟨gW,vv1,p1,_⟩:=I.tuple h1;exact SeqAt.RcNeAt.tuple_list (show s.heap.IsTuple a1 gW.toArray from p1) (show s.heap.IsList a2 its2.toArray from p2) hu0
  | ref _=>cases n <;> simp [aQ] at hy
  | ty _=>cases n <;> simp [aQ] at hy
theorem aCW {σ:St} (I:Inv X pins σ H s) (n:Nat) (A:Around) {xs1 xs2:List V} {ds1 vX:List D} (h1:SqL X.K H a1 xs1) (h2:SqL X.K H a2 xs2) (r1:cN X.K H ds1 xs1) (r2:cN X.K H vX xs2)
    (hu:A.units+(n+1) < cLine) (hx:ds1.all (aQ n)=true) (hy:vX.all (aQ n)=true):SeqAt.RcNeAt A s (.ref a1) (.ref a2) (!rY ds1 vX):=by
  have hu0:A.units < cLine:=by omega
  obtain ⟨gW,vv1,q1,_⟩:=I.list h1;obtain ⟨its2,vv2,q2,_⟩:=I.list h2;have p1:=q1.isList;have p2:=q2.isList;by_cases hl:ds1.length=vX.length
  . have hsz:gW.toArray.size=its2.toArray.size:=by rw [bw,bw,← vv1.length,← vv2.length,← r1.length,← r2.length];exact hl
    have z:=SeqAt.RcNeAt.lists (e:=yM ds1 vX) p1 p2 hsz hu0 (a0C (n:=n) r1 r2 vv1 vv2 fun x mx y my v w u t q1 q2 q3 q4 =>
            aa5 I n A.in1 x y v w u t (a0D hu) (iu.mp hx x mx) (iu.mp hy y my) q1 q2 q3 q4)
    have e:(ji gW.toArray.size).all (yM ds1 vX)=rY ds1 vX:=by rw [adN hl,bw,← vv1.length,← r1.length]
    rw [e] at z;exact z
  . have hne:(gW.toArray.size != its2.toArray.size)=true:=by rw [bw,bw,← vv1.length,← vv2.length,← r1.length,← r2.length];simpa using hl
    have e:rY ds1 vX=false:=agY (by simpa using hl);rw [e];exact SeqAt.RcNeAt.lists_lengths p1 p2 hne hu0
noncomputable def eqG (G:Gp) (x y:D) (k:Bool->Prop):Prop:=match x,y with
  | .ref a,.ref b=>(match bY G a,bY G b with
    | some xs,some ys=>xs.all (aQ 20)=true/\ys.all (aQ 20)=true/\k (rY xs ys)
    | _,_=>False)
  | .ref a,y=>(match bY G a with
    | some _=>aQ 20 y=true/\k false
    | none=>False)
  | x,.ref b=>(match bY G b with
    | some _=>aQ 20 x=true/\k false
    | none=>False)
  | x,y=>aQ 20 x=true/\aQ 20 y=true/\k (eqP x y)
noncomputable def a5L:R3:=fun x y G R=>eqG G x y fun b=>R (.bl b) G
noncomputable def a8V:R3:=fun x y G R=>eqG G x y fun b=>R (.bl (!b)) G
theorem a70 {r3:R3} (h:∀ (pins:List (Addr×Obj)) (s:Shared) (σ:St) (H:Hp) (x y:D) (vx vy:V) (u v:Value) (G:Gp) (R:j4) (Q:VK),Inv X pins σ H s->RD X.K H x vx->RD X.K H y vy->RelV vx u->RelV vy v->HR X.K H G->r3 x y G R ->
      (∀ w H' d G',Ts H H'->RD X.K H' d w->HR X.K H' G'->R d G'->Q w H')->wpAny (model X.prog X.w) X.A (f u v) (EP X pins σ Q) X.xe s):rA X f r3 :=
  ⟨fun vx vy H Q=>∃ x y G R,RD X.K H x vx/\RD X.K H y vy/\HR X.K H G/\r3 x y G R/\∀ w H' d G',Ts H H'->RD X.K H' d w->HR X.K H' G'->R d G'->Q w H',
    fun pins s σ H vx vy u v Q I ru rv ⟨x,y,G,R,rx,ry,g,q,k⟩=>h pins s σ H x y vx vy u v G R Q I rx ry ru rv g q k,fun H x y vx vy G R Q rx ry g q k=>⟨x,y,G,R,rx,ry,g,q,k⟩⟩
theorem alW (hu:X.A.units+64 < cLine) {neg:Bool} (hop:op=if neg then .NotEq else .Eq) {σ:St} {x y:D} {v:Value} {k:Bool->Prop} (I:Inv X pins σ H s) (rx:RD X.K H x vx) (ry:RD X.K H y vy) (ru:RelV vx u) (rv:RelV vy v) (g:HR X.K H G)
    (h:eqG G x y k) (hk:∀ b,k b->EP X pins σ Q (.bool (neg ^^ b)) s):wpAny (model X.prog X.w) X.A (compareOp op u v) (EP X pins σ Q) X.xe s:=by
  have fin:∀ {b:Bool},(if neg then SeqAt.RcNeAt X.A s u v (!b) else SeqAt.RcAt X.A s u v b)->k b->wpAny (model X.prog X.w) X.A (compareOp op u v) (EP X pins σ Q) X.xe s:=fun {b} z kb=>by
    have e:=hk b kb;cases neg with
    | true =>
      subst hop;rw [Bool.true_xor] at e;exact z X.prog X.w X.xe _ e
    | false =>
      subst hop;rw [Bool.false_xor] at e;exact z X.prog X.w X.xe _ e
  have hu1:X.A.units+(20+1) < cLine:=by omega
  have hu2:X.A.units+(19+1) < cLine:=by omega
  have hu0:X.A.units < cLine:=by omega
  have plain:aQ 20 x=true->aQ 20 y=true->k (eqP x y)->wpAny (model X.prog X.w) X.A (compareOp op u v) (EP X pins σ Q) X.xe s:=fun hx hy kk=>fin (b:=eqP x y) (by
    cases neg with
    | true=>exact aCT I 19 X.A x y vx vy u v hu2 hx hy rx ry ru rv
    | false=>exact aN6 I 19 X.A x y vx vy u v hu2 hx hy rx ry ru rv) kk
  have left:∀ a xs,x = .ref a->bY G a=some xs->aQ 20 y=true->k false->wpAny (model X.prog X.w) X.A (compareOp op u v) (EP X pins σ Q) X.xe s:=fun a xs e1 e2 hy kk=>by
    subst e1;cases rx;cases ru;obtain ⟨zs,hz,_⟩:=d8 g e2;refine fin (b:=false) ?_ kk;cases neg with
    | true=>exact aCU I 20 X.A hz y vy v hu0 hy ry rv
    | false=>exact aN7 I 20 X.A hz y vy v hu0 hy ry rv
  have right:∀ a xs,y = .ref a->bY G a=some xs->aQ 20 x=true->k false->wpAny (model X.prog X.w) X.A (compareOp op u v) (EP X pins σ Q) X.xe s:=fun a xs e1 e2 hy kk=>by
    subst e1;cases ry;cases rv;obtain ⟨zs,hz,_⟩:=d8 g e2;refine fin (b:=false) ?_ kk;cases neg with
    | true=>exact aCV I 20 X.A hz x vx u hu0 hy rx ru
    | false=>exact aN8 I 20 X.A hz x vx u hu0 hy rx ru
  unfold eqG at h;split at h
  . rename_i a b;split at h
    . rename_i xs ys e1 e2;cases rx;cases ry;cases ru;cases rv;obtain ⟨zs1,hz1,q1⟩:=d8 g e1;obtain ⟨zs2,hz2,q2⟩:=d8 g e2;refine fin (b:=rY xs ys) ?_ h.2.2;cases neg with
      | true=>exact aCW I 20 X.A hz1 hz2 q1 q2 hu1 h.1 h.2.1
      | false=>exact aN9 I 20 X.A hz1 hz2 q1 q2 hu1 h.1 h.2.1
    . exact h.elim
  . rename_i a _;split at h
    . rename_i xs e1;exact left a xs rfl e1 h.1 h.2
    . exact h.elim
  . rename_i b _;split at h
    . rename_i xs e1;exact right b xs rfl e1 h.1 h.2
    . exact h.elim
  . exact plain h.1 h.2.1 h.2.2
theorem aNA (hu:X.A.units+64 < cLine):rA X (compareOp .Eq) a5L:=a70 fun pins s σ H x y vx vy u v G R Q I rx ry ru rv g q k =>
  alW (neg:=false) hu rfl I rx ry ru rv g q fun b kb=>⟨.bl b,H,I,by rw [Bool.false_xor];rfl,k _ H (.bl b) G (.refl H) (.bl b) g kb⟩
theorem aNB (hu:X.A.units+64 < cLine):rA X (compareOp .NotEq) a8V:=a70 fun pins s σ H x y vx vy u v G R Q I rx ry ru rv g q k =>
  alW (neg:=true) hu rfl I rx ry ru rv g q fun b kb=>⟨.bl (!b),H,I,by rw [Bool.true_xor];rfl,k _ H (.bl (!b)) G (.refl H) (.bl (!b)) g kb⟩
end
end
section
open PySem.W PySem.Calls
open PySem.Builtin PySem.Builtin.ObjectAttr PySem.Builtin.Getset_descriptor
section
variable {prog:Program} {w:World} {A:Around} {E:Value->Shared->Prop} {s:Shared} {K:Fg} {x C:Addr} {o:Obj}
theorem acI {tp:Value} {R:Result->Shared->Prop} (X:K.In s.heap) (hx:s.heap.get? x=some o) (hc:o.cls = .ref C) (hm:mroIn K C (.type "object")=some true)
    (h:R (.ok (.ret (.ref C))) s):codeAny (model prog w) A (.call (.builtin "getset_descriptor.__get__") ⟨[.builtin "object.__class__",.ref x,tp],[]⟩) R s:=by
  obtain ⟨hh,g,dr,t,os⟩:=s;have L0:Looks (model prog w) hh (typeOf (.ref x)) (.ref C):=hc ▸ (Looks.ld hx).andThen .now;have L1:=looks_mroIn (M:=model prog w) X hm;refine codeAny_call_builtin KF.slot_gs.plain KF.entry_gs (KF.slot_gs.check _ _ _ _ _ _ _ _ KF.type_class (KF.args_gs _ _ _) ?_);unfold Builtin.«getset_descriptor.__get__» descrGet;rw [dga_obj];refine aj (aq ?_);unfold descrGetter descrCheckInstance descrNameAndClass isInstance;simp only [KF.owner_class]
  repeat lk
  refine ⟨Code.quiet_builtin _ (by decide +kernel),codeAny_builtin KF.entry_class ?_⟩;unfold Builtin.«object.__class__» shownTypeOf
  repeat lk
  exact h
theorem aoC {Q:Option Value->Shared->Prop} (X:K.In s.heap) (hx:s.heap.get? x=some o) (hc:o.cls = .ref C)
    (hga:findIn K (.ref C) "__getattribute__" = some (some (.builtin "BaseException.__getattribute__"))) (hgn:findIn K (.ref C) "__getattr__" = some none) (ha:findIn K (.ref C) "__class__" = some (some (.builtin "object.__class__")))
    (hb:subIn K (.ref C) (.type "BaseException")=some true) (hm:mroIn K C (.type "object")=some true) (h:Q (some (.ref C)) { s with toks:=s.toks+1 }):wpAny (model prog w) A (getAttr? (.ref x) "__class__") Q E s:=by
  obtain ⟨hh,g,d,t,os⟩:=s;have L0:Looks (model prog w) hh (typeOf (.ref x)) (.ref C):=hc ▸ (Looks.ld hx).andThen .now;have L1:=looks_findIn (M:=model prog w) X hga;have L2':=looks_findIn (M:=model prog w) X hgn;have L3:=looks_findIn (M:=model prog w) X ha;have L4:=looks_subIn (M:=model prog w) X hb;unfold getAttr? getAttrBy? getAttrBy;refine aj (wpAny_mkText (aj (wpAny_attempt (wpAny_holding (aj (L0.at (aj (L1.at ?_))))))));have hx2:(Value.builtin "BaseException.__getattribute__" == Value.builtin "object.__getattribute__")=false:=by decide +kernel
  have f3:=PySem.F.attr_ValueError.ga.bind (.ref x);have hk:builtinKind "BaseException.__getattribute__" = some .slot:=by decide +kernel
  have hsplit:splitId "BaseException.__getattribute__" = some ("BaseException", "__getattribute__"):=by decide +kernel
  have ha2:=PySem.F.args_bexc_ga (.ref x) (.str "__class__" t)
  repeat (first | with_reducible refine L0.at ?_ | with_reducible refine L1.at ?_ | with_reducible refine L2'.at ?_ | with_reducible refine L3.at ?_ | with_reducible refine L4.at ?_ | wp_step)
  refine codeAny_call_builtin PySem.F.attr_ValueError.ga.plain PySem.F.entry_bexc_ga ?_;simp only [checkBuiltinCall,hk,hsplit];unfold isInstance;have f5:=PySem.F.typeOf_object_class;have f6:=PySem.F.slot_gs_get.lookup;have f7:=PySem.F.slot_gs_set.lookup
  repeat (any_goals (first | assumption | with_reducible refine L0.at ?_ | with_reducible refine L1.at ?_ | with_reducible refine L2'.at ?_ | with_reducible refine L3.at ?_ | with_reducible refine L4.at ?_ | wp_step))
  refine acI X hx hc hm ?_
  repeat (any_goals (first | assumption | wp_step))
end
end
variable {R:j4}{T:String}
section
variable {n:String}
section
variable {X:Cx} {x:Str} {p pos:Pos} {e o:Expr} {es:List Expr} {t:yH} {to:cL} {id T:String} {r3:List D->Gp->j4->Prop}
noncomputable def cU (X:Cx) (f:Value) (r3:List D->Gp->j4->Prop):Prop :=
  ∀ (pins:List (Addr×Obj)) (s:Shared) (σ:St) (H:Hp) (xs:List D) (vs:List V) (us:List Value) (G:Gp) (R:j4) (Q:VK),Inv X pins σ H s->cN X.K H xs vs->Vals vs us->HR X.K H G->r3 xs G R ->
    (∀ v H' d G',Ts H H'->RD X.K H' d v->HR X.K H' G'->R d G'->Q v H')->wpAny (model X.prog X.w) X.A (call f us) (EP X pins σ Q) X.xe s
theorem cU.of {f:Value} {r:List V->Hp->VK->Prop} (h:wM X f r) (i:∀ (H:Hp) (xs:List D) (vs:List V) (G:Gp) (R:j4) (Q:VK),cN X.K H xs vs->HR X.K H G->r3 xs G R ->
    (∀ v H' d G',Ts H H'->RD X.K H' d v->HR X.K H' G'->R d G'->Q v H')->r vs H fun v H'=>KF X.K H'->Q v H'):cU X f r3:=fun pins s σ H xs vs us G R Q I rx rv g q k =>
  f9 (h pins s σ H vs us _ I rv (i H xs vs G R Q rx g q k)) fun _ _ ⟨v,H',I',r,q'⟩=>⟨v,H',I',r,q' (wN I')⟩
noncomputable def lX (r3:List D->Gp->j4->Prop) (t:yH):cL:=fun ρ G R=>t ρ G fun xs G1=>r3 xs G1 R
theorem v9 (hc:cU X (.builtin id) r3) (hg:Gl X x) (hm:X.mg x=none) (hv:bootBuiltins x=some (.builtin id)) (ha:PA3 X (e :: es) t) (hn:x ≠ "__name__" := by decide) (hdb:(x == ("__debug__" : Str))=false:=by decide)
    (he:starEach (e :: es) X.env=(false,eval e X.env) :: starEach es X.env:=by rfl) (hpl:(backTo pos (starEach es X.env)).any (·.1)=false:=by rfl):cR X (.Call (.Name x p) (e :: es) [] pos) (lX r3 t):=by
  intro pins s σ H Q I h;obtain ⟨ρ,G,R,sr,g,q,kk⟩:=h;refine wpAny_Call_Name_kw (a3P I hg hm hv ?_ hn hdb)
  exact PyProof.Rows.callWith_builtin1 (f9 (ha pos pins s σ H (fun vs H1=>Ts H H1/\∃ ds G1,cN X.K H1 ds vs/\HR X.K H1 G1/\r3 ds G1 R) I ⟨ρ,G,_,sr,g,q,fun vs H1 ds G1 t1 r1 g1 q1=>⟨t1,ds,G1,r1,g1,q1⟩⟩) fun us s1 ⟨vs,H1,I1,r,t1,ds,G1,r1,g1,q1⟩ =>
    hc pins s1 σ H1 ds vs us G1 R Q I1 r1 r g1 q1 fun v H' d G' t2=>kk v H' d G' (t1.trans t2)) he hpl
theorem ah0 (hc:cU X (.type T) r3) (hg:Gl X x) (hm:X.mg x=none) (hv:bootBuiltins x=some (.type T)) (ha:PA3 X (e :: es) t) (hn:x ≠ "__name__" := by decide) (hdb:(x == ("__debug__" : Str))=false:=by decide)
    (he:starEach (e :: es) X.env=(false,eval e X.env) :: starEach es X.env:=by rfl) (hpl:(backTo pos (starEach es X.env)).any (·.1)=false:=by rfl):cR X (.Call (.Name x p) (e :: es) [] pos) (lX r3 t):=by
  intro pins s σ H Q I h;obtain ⟨ρ,G,R,sr,g,q,kk⟩:=h;refine wpAny_Call_Name_kw (a3P I hg hm hv ?_ hn hdb)
  exact PyProof.Rows.callWith_type1 (f9 (ha pos pins s σ H (fun vs H1=>Ts H H1/\∃ ds G1,cN X.K H1 ds vs/\HR X.K H1 G1/\r3 ds G1 R) I ⟨ρ,G,_,sr,g,q,fun vs H1 ds G1 t1 r1 g1 q1=>⟨t1,ds,G1,r1,g1,q1⟩⟩) fun us s1 ⟨vs,H1,I1,r,t1,ds,G1,r1,g1,q1⟩ =>
    hc pins s1 σ H1 ds vs us G1 R Q I1 r1 r g1 q1 fun v H' d G' t2=>kk v H' d G' (t1.trans t2)) he hpl
noncomputable def a0E:List D->Gp->j4->Prop:=fun xs G R=>match xs with
  | [.str z]=>z.length<=sizeLine/\R (.int z.length) G
  | [.tup ds]=>R (.int ds.length) G
  | [.ref q]=>(match bY G q with
    | some ds=>R (.int ds.length) G
    | none=>False)
  | _=>False
theorem aIX:cU X (.builtin "len") a0E:=cU.of (aeQ.or aeR) fun H xs vs G R Q rx g q k=>by
  cases rx with
  | nil=>exact False.elim q
  | cons r rr =>
    cases rr with
    | cons _ _=>cases r <;> exact False.elim q
    | nil =>
      cases r with
      | str z=>exact .inr ⟨z,rfl,q.1,fun _=>k _ H _ G (.refl H) (.int _) g q.2⟩
      | @tup a xs ds ha ra=>exact .inl ⟨a,xs,rfl,.inr ha,fun _=>by rw [← ra.length];exact k _ H _ G (.refl H) (.int _) g q⟩
      | ref a =>
        have q':(match bY G a with
          | some ds=>R (.int ds.length) G
          | none=>False):=q
        split at q'
        . rename_i ds e1;obtain ⟨xs,h1,r1⟩:=d8 g e1;exact .inl ⟨a,xs,rfl,.inl h1,fun _=>by rw [← r1.length];exact k _ H _ G (.refl H) (.int _) g q'⟩
        . exact q'.elim
      | _=>exact False.elim q
noncomputable def adP:List D->Gp->j4->Prop:=fun xs G R=>match xs with
  | [.int i]=>R (.int i) G
  | [.bl b]=>R (.int (if b then 1 else 0)) G
  | _=>False
theorem aIY:cU X (.type "int") adP:=cU.of anT fun H xs vs G R Q rx g q k=>by
  cases rx with
  | nil=>exact False.elim q
  | cons r rr =>
    cases rr with
    | cons _ _=>cases r <;> exact False.elim q
    | nil =>
      cases r with
      | int i=>exact .inl ⟨i,rfl,fun _=>k _ H _ G (.refl H) (.int _) g q⟩
      | bl b=>exact .inr ⟨b,rfl,fun _=>k _ H _ G (.refl H) (.int _) g q⟩
      | _=>exact False.elim q
noncomputable def aqR:List D->Gp->j4->Prop:=fun xs G R=>match xs with
  | [.tup ds]=>∀ l,G l=none->R (.ref l) (aL G l (.lst ds))
  | [.ref q]=>(match bY G q with
    | some ds=>∀ l,G l=none->R (.ref l) (aL G l (.lst ds))
    | none=>False)
  | _=>False
theorem aCX:cU X (.type "list") aqR:=cU.of aeS fun H xs vs G R Q rx g q k=>by
  cases rx with
  | nil=>exact False.elim q
  | cons r rr =>
    cases rr with
    | cons _ _=>cases r <;> exact False.elim q
    | nil =>
      cases r with
      | @tup a xs ds ha ra =>
        refine ⟨a,xs,rfl,.inr ha,fun l hl kf=>?_⟩;have sn:Same H (upd H l (.lst xs)):=bU hl;exact k _ _ _ _ (.same sn) (.ref l) (g.put (u := .lst ds) hl ⟨_,aJ,ra.mono (.same sn)⟩) (q l (nQ g hl kf))
      | ref a =>
        have q':(match bY G a with
          | some ds=>∀ l,G l=none->R (.ref l) (aL G l (.lst ds))
          | none=>False):=q
        split at q'
        . rename_i ds e1;obtain ⟨xs,h1,r1⟩:=d8 g e1;refine ⟨a,xs,rfl,.inl h1,fun l hl kf=>?_⟩;have sn:Same H (upd H l (.lst xs)):=bU hl;exact k _ _ _ _ (.same sn) (.ref l) (g.put (u := .lst ds) hl ⟨_,aJ,r1.mono (.same sn)⟩) (q' l (nQ g hl kf))
        . exact q'.elim
      | _=>exact False.elim q
noncomputable def tyD (G:Gp):D->Option String
  | .non=>some "NoneType"
  | .bl _=>some "bool"
  | .int _=>some "int"
  | .str _=>some "str"
  | .tup _=>some "tuple"
  | .ref q=>(match G q with
    | some (.lst _)=>some "list"
    | some (.rol _)=>some "list"
    | some (.bQ _ _)=>some "dict"
    | _=>none)
  | .ty _=>none
noncomputable def exD (G:Gp):D->Option Addr
  | .ref q=>(match G q with
    | some (.exn C)=>some C
    | _=>none)
  | _=>none
noncomputable def subB (T n:String):Bool:=T == n || (T == "bool" && n == "int")
noncomputable def aIZ:List String:=["NoneType", "bool", "int", "str", "list", "tuple", "dict"]
noncomputable def jB:List String:=["int", "bool", "str", "list", "tuple", "dict", "ValueError"]
theorem aCZ:∀ T∈aIZ,∀ n∈jB,cj [] (.type T) (.type n)=some (subB T n):=by decide +kernel
theorem rZ (K:Fg) (h1:T∈aIZ) (h2:n∈jB):cj K (.type T) (.type n)=some (subB T n):=aCZ T h1 n h2
structure ExC (K:Fg) (C:Addr):Prop where
  ga:iw K (.ref C) "__getattribute__" = some (some (.builtin "BaseException.__getattribute__"))
  gn:iw K (.ref C) "__getattr__" = some none
  cl:iw K (.ref C) "__class__" = some (some (.builtin "object.__class__"))
  be:iy K (.ref C) (.type "BaseException")=some true
  ob:PySem.W.mroIn K C (.type "object")=some true
  cs:(jd K C).isSome=true
theorem aqT {K:Fg} (c:ExC K C):PySem.W.KitX K (.ref a) (.ref C) (a2Y C a) where
  ty:=fun M h X ⟨o,vs,h1,h2,_⟩=>h2 ▸ (jz.ld h1).andThen .now
  it:=fun M h X _=>by
    intro A' Q' E' s' k q;cases eK:jd K C with
    | none=>have:=c.cs;rw [eK] at this;cases this
    | some cd =>
      unfold jd at eK;split at eK
      . rename_i ho;unfold isType loadHead;exact aj (wpAny_loadPart (k _ _ (X _ _ ho)) (aq q))
      . cases eK
  ne:=fun h tp dd its n sl X htp=>by
    refine Bool.eq_false_iff.mpr fun q=>?_;have e:C=tp:=Value.ref.inj (beq_iff_eq.mp q);subst e;cases eK:jd K C with
    | none=>have:=c.cs;rw [eK] at this;cases this
    | some cd =>
      unfold jd at eK;split at eK
      . rename_i ho;have z:=(X _ _ ho).symm.trans htp;cases z
      . cases eK
  ca:=fun X ⟨o,vs,h1,h2,_⟩ k=>aoC X h1 h2 c.ga c.gn c.cl c.be c.ob k
noncomputable def aF (K:Fg):List D->Gp->j4->Prop:=fun xs G R=>match xs with
  | [x,.ty n]=>(match tyD G x with
    | some T=>n∈jB/\R (.bl (subB T n)) G
    | none=>(match exD G x with
      | some C=>∃ b,ExC K C/\cj K (.ref C) (.type n)=some b/\R (.bl b) G
      | none=>False))
  | [x,.ref C']=>(match exD G x with
    | some C=>∃ b,ExC K C/\cj K (.ref C) (.ref C')=some b/\R (.bl b) G
    | none=>False)
  | _=>False
variable {x:D}
theorem aqU (h:exD G x=some C):∃ a,x = .ref a/\G a=some (.exn C):=by
  cases x with
  | ref q =>
    refine ⟨q,rfl,?_⟩
    have h':(match G q with
      | some (.exn C)=>some C
      | _=>none)=some C:=h
    split at h'
    . rename_i e1;cases h';exact e1
    . cases h'
  | _=>cases h
theorem sE {σ:St} {c:Value} {b:Bool} (I:Inv X pins σ H s) (g:HR X.K H G) (e:G a=some (.exn C)) (hc:ExC X.K C) (hk:cj X.K (.ref C) c=some b) (q:R (.bl b) G)
    (k:∀ v H' d G',Ts H H'->RD X.K H' d v->HR X.K H' G'->R d G'->Q v H'):wpAny (model X.prog X.w) X.A (call (.builtin "isinstance") [.ref a,c]) (EP X pins σ Q) X.xe s:=by
  obtain ⟨o0,vs0,z,_⟩:=g a _ e;obtain ⟨_,z1,_,_⟩:=I.hok a _ z;exact ou (aqT hc) I.kIn z1 hk (fun z=>nomatch z) fun tk=>⟨.bl b,H,I.tok tk,rfl,k _ H _ G (.refl H) (.bl b) g q⟩
theorem aD0 {σ:St} (I:Inv X pins σ H s) (rx:RD X.K H x vx) (ru:RelV vx u) (g:HR X.K H G) (e:tyD G x=some T) (hn:n∈jB) (q:R (.bl (subB T n)) G)
    (k:∀ v H' d G',Ts H H'->RD X.K H' d v->HR X.K H' G'->R d G'->Q v H'):wpAny (model X.prog X.w) X.A (call (.builtin "isinstance") [u,.type n]) (EP X pins σ Q) X.xe s:=by
  have fin:∀ tk,EP X pins σ Q (.bool (subB T n)) { s with toks:=tk }:=fun tk=>⟨.bl _,H,I.tok tk,rfl,k _ H _ G (.refl H) (.bl _) g q⟩;cases rx with
  | non=>cases ru;cases e;exact ou PySem.W.kitx_none I.kIn True.intro (rZ _ (by decide) hn) (fun z=>nomatch z) fin
  | bl b=>cases ru;cases e;exact ou PySem.W.kitx_bool I.kIn True.intro (rZ _ (by decide) hn) (fun z=>nomatch z) fin
  | int i=>obtain ⟨t,rfl⟩:=ru;cases e;exact ou PySem.W.kitx_int I.kIn True.intro (rZ _ (by decide) hn) (fun z=>nomatch z) fin
  | str i=>obtain ⟨t,rfl⟩:=ru;cases e;exact ou PySem.W.kitx_str I.kIn True.intro (rZ _ (by decide) hn) (fun z=>nomatch z) fin
  | ty n=>cases e
  | @tup a xs ds ha ra =>
    cases ru;cases e;obtain ⟨its,_,p,_⟩:=I.tuple ha;obtain ⟨o,h1,h2,_⟩:=p;exact ou PySem.W.kitx_tuple I.kIn ⟨o,h1,h2⟩ (rZ _ (by decide) hn) (fun z=>nomatch z) fin
  | ref a =>
    cases ru
    have e':(match G a with
      | some (.lst _)=>some "list"
      | some (.rol _)=>some "list"
      | some (.bQ _ _)=>some "dict"
      | _=>none)=some T:=e
    split at e'
    . rename_i ds e1;cases e';obtain ⟨xs,h1,_⟩:=d8 g (show bY G a=some ds by unfold bY;rw [e1]);obtain ⟨its,_,p,_⟩:=I.list h1;obtain ⟨o,n',h1,h2,_⟩:=p;exact ou PySem.W.kitx_list I.kIn ⟨o,h1,h2⟩ (rZ _ (by decide) hn) (fun z=>nomatch z) fin
    . rename_i ds e1;cases e';obtain ⟨xs,h1,_⟩:=d8 g (show bY G a=some ds by unfold bY;rw [e1]);obtain ⟨its,_,p,_⟩:=I.list h1;obtain ⟨o,n',h1,h2,_⟩:=p;exact ou PySem.W.kitx_list I.kIn ⟨o,h1,h2⟩ (rZ _ (by decide) hn) (fun z=>nomatch z) fin
    . rename_i kvs e1;cases e';rcases g a _ e1 with ⟨_,xs,h1,_⟩ | ⟨_,xs,h1,_⟩
      . obtain ⟨_,_,vs,_,o,es,ep,h1,h2,_⟩:=I.hok a _ h1;exact ou PySem.W.kitx_dict I.kIn ⟨o,h1,h2.1⟩ (rZ _ (by decide) hn) (fun z=>nomatch z) fin
      . obtain ⟨_,_,xs,_,o,es,ep,h1,h2,_⟩:=I.hok a _ h1;exact ou PySem.W.kitx_dict I.kIn ⟨o,h1,h2.1⟩ (rZ _ (by decide) hn) (fun z=>nomatch z) fin
    . cases e'
theorem aeY:cU X (.builtin "isinstance") (aF X.K):=by
  intro pins s σ H xs vs us G R Q I rx rv g q k;cases rx with
  | nil=>exact False.elim q
  | @cons x v ds ws r1 rr =>
    cases rr with
    | nil=>cases r1 <;> exact False.elim q
    | @cons y v2 vX ws2 r2 rr2 =>
      cases rr2 with
      | cons _ _=>cases r2 <;> exact False.elim q
      | nil =>
        obtain ⟨u1,u2,rfl,ru1,ru2⟩:=vals2 rv;cases r2 with
        | ty n =>
          cases ru2
          have q':(match tyD G x with
            | some T=>n∈jB/\R (.bl (subB T n)) G
            | none=>(match exD G x with
              | some C=>∃ b,ExC X.K C/\cj X.K (.ref C) (.type n)=some b/\R (.bl b) G
              | none=>False)):=q
          split at q'
          . rename_i T eT;exact aD0 I r1 ru1 g eT q'.1 q'.2 k
          . split at q'
            . rename_i C eC;obtain ⟨a,rfl,ea⟩:=aqU eC;obtain ⟨b,hc,hk,q'⟩:=q';cases r1;cases ru1;exact sE I g ea hc hk q' k
            . exact q'.elim
        | ref C' =>
          cases ru2
          have q':(match exD G x with
            | some C=>∃ b,ExC X.K C/\cj X.K (.ref C) (.ref C')=some b/\R (.bl b) G
            | none=>False):=q
          split at q'
          . rename_i C eC;obtain ⟨a,rfl,ea⟩:=aqU eC;obtain ⟨b,hc,hk,q'⟩:=q';cases r1;cases ru1;exact sE I g ea hc hk q' k
          . exact q'.elim
        | _=>exact False.elim q
end
end
variable {id:String}{to:cL}{name:Str}
section
theorem aa6 {K:Fg} {H:Hp} {x:D} {vx:V} (hx:scD x=true) (rx:RD K H x vx):∀ {ys:List D} {vs:List V},cN K H ys vs->ys.all scD=true->vs.any (fun y=>eqV y vx)=ys.any (fun y=>eqP y x)
  | _,_,.nil,_=>rfl
  | _,_,.cons h r,hs=>by
    rw [qm,ak] at hs;rw [qz,qz,aa6 hx rx r hs.2];congr 1;obtain ⟨h1,_⟩:=hs;cases rx <;> cases h <;> first | (simp [eqV,eqP];done) | cases hx | cases h1
variable {x:D}
theorem a5M {K:Fg} (hx:scD x=true) (rx:RD K H x vx):zP vx=true:=by cases rx <;> first | rfl | cases hx
theorem a0F {K:Fg} {H:Hp}:∀ {ys:List D} {vs:List V},cN K H ys vs->ys.all scD=true->vs.all zP=true
  | _,_,.nil,_=>rfl
  | _,_,.cons h r,hs=>by
    rw [qm,ak] at hs;rw [qm,a5M hs.1 h,a0F r hs.2];rfl
noncomputable def inG (G:Gp) (x y:D) (k:Bool->Prop):Prop:=match x,y with
  | .str i,.str j=>k (!(Builtin.Str.occurrences j i 0 j.length 1).isEmpty)
  | x,.tup ys=>scD x=true/\ys.all scD=true/\k (ys.any fun y=>eqP y x)
  | x,.ref p=>(match bY G p with
    | some ys=>scD x=true/\ys.all scD=true/\k (ys.any fun y=>eqP y x)
    | none=>False)
  | _,_=>False
noncomputable def aJ0:R3:=fun x y G R=>inG G x y fun b=>R (.bl b) G
noncomputable def alX:R3:=fun x y G R=>inG G x y fun b=>R (.bl (!b)) G
variable {o:Expr}
section
variable {X:Cx}
theorem aND (hu:X.A.units+64 < cLine):rA X (compareOp .In) aJ0:=by
  refine ⟨_,anQ.or ao0,fun H x y vx vy G R Q rx ry g h k=>?_⟩;have h':inG G x y fun b=>R (.bl b) G:=h;unfold inG at h';split at h'
  . cases rx;cases ry;exact .inl ⟨_,_,rfl,rfl,k _ H _ G (.refl H) (.bl _) g h'⟩
  . cases ry with
    | @tup a xs ds ha ra =>
      refine .inr ⟨a,xs,rfl,.inr ha,a5M h'.1 rx,a0F ra h'.2.1,?_⟩;have e:inV vx xs=_:=aa6 h'.1 rx ra h'.2.1;simp only [jx,if_false];rw [e];exact k _ H _ G (.refl H) (.bl _) g h'.2.2
  . cases ry;split at h'
    . rename_i ys e1;obtain ⟨xs,hq,ra⟩:=d8 g e1;refine .inr ⟨_,xs,rfl,.inl hq,a5M h'.1 rx,a0F ra h'.2.1,?_⟩;have e:inV vx xs=_:=aa6 h'.1 rx ra h'.2.1;simp only [jx,if_false];rw [e];exact k _ H _ G (.refl H) (.bl _) g h'.2.2
    . exact h'.elim
  . exact h'.elim
theorem awO (hu:X.A.units+64 < cLine):rA X (compareOp .NotIn) alX:=by
  refine ⟨_,aeK.or aeP,fun H x y vx vy G R Q rx ry g h k=>?_⟩;have h':inG G x y fun b=>R (.bl (!b)) G:=h;unfold inG at h';split at h'
  . cases rx;cases ry;exact .inl ⟨_,_,rfl,rfl,k _ H _ G (.refl H) (.bl _) g h'⟩
  . cases ry with
    | @tup a xs ds ha ra =>
      refine .inr ⟨a,xs,rfl,.inr ha,a5M h'.1 rx,a0F ra h'.2.1,?_⟩;have e:inV vx xs=_:=aa6 h'.1 rx ra h'.2.1;simp only [if_true];rw [e];exact k _ H _ G (.refl H) (.bl _) g h'.2.2
  . cases ry;split at h'
    . rename_i ys e1;obtain ⟨xs,hq,ra⟩:=d8 g e1;refine .inr ⟨_,xs,rfl,.inl hq,a5M h'.1 rx,a0F ra h'.2.1,?_⟩;have e:inV vx xs=_:=aa6 h'.1 rx ra h'.2.1;simp only [if_true];rw [e];exact k _ H _ G (.refl H) (.bl _) g h'.2.2
    . exact h'.elim
  . exact h'.elim
noncomputable def ah1 (T:String) (G:Gp):D->Prop
  | .str _=>T = "str"
  | .ref p=>T = "list" /\ (bY G p).isSome=true
  | _=>False
theorem aqV {K:Fg} (g:HR K H G) (r:RD K H x v) (h:ah1 T G x):tyV K T v H:=by
  cases r with
  | str z=>exact h
  | ref p =>
    obtain ⟨rfl,h⟩:=h;obtain ⟨ds,e⟩:=xr.mp h;obtain ⟨xs,hq,_⟩:=d8 g e;exact .inl ⟨rfl,xs,hq⟩
  | _=>exact False.elim h
noncomputable abbrev RM3:=D->List D->Gp->j4->Prop
noncomputable def a8W (X:Cx) (id:String) (r3:RM3):Prop :=
  ∀ (pins:List (Addr×Obj)) (s:Shared) (σ:St) (H:Hp) (x:D) (xs:List D) (vx:V) (vs:List V) (u:Value) (us:List Value) (G:Gp) (R:j4) (Q:VK),Inv X pins σ H s->RD X.K H x vx->cN X.K H xs vs->RelV vx u->Vals vs us->HR X.K H G->r3 x xs G R ->
    (∀ v H' d G',Ts H H'->RD X.K H' d v->HR X.K H' G'->R d G'->Q v H')->wpAny (model X.prog X.w) X.A (call (.builtin id) (u :: us)) (EP X pins σ Q) X.xe s
variable {r3:RM3}
theorem a8W.of {r:V->List V->Hp->VK->Prop} (h:MtR X id r) (i:∀ (H:Hp) (x:D) (xs:List D) (vx:V) (vs:List V) (G:Gp) (R:j4) (Q:VK),RD X.K H x vx->cN X.K H xs vs->HR X.K H G->r3 x xs G R ->
    (∀ v H' d G',Ts H H'->RD X.K H' d v->HR X.K H' G'->R d G'->Q v H')->r vx vs H fun v H'=>KF X.K H'->Q v H'):a8W X id r3:=fun pins s σ H x xs vx vs u us G R Q I rx rs ru rv g q k =>
  f9 (h pins s σ H vx vs u us _ I ru rv (i H x xs vx vs G R Q rx rs g q k)) fun _ _ ⟨v,H',I',r,q'⟩=>⟨v,H',I',r,q' (wN I')⟩
noncomputable def tM3 (T:String) (r:RM3) (to:cL) (t:yH):cL:=fun ρ G R=>to ρ G fun x G1=>ah1 T G1 x/\t ρ G1 fun xs G2=>r x xs G2 R
noncomputable def aD1 (T:String) (r:RM3) (to:cL):cL:=fun ρ G R=>to ρ G fun x G1=>ah1 T G1 x/\r x [] G1 R
theorem aD2 {es:List Expr} {t:yH} {apos cpos:Pos} (pa:PlainAttrs T) (slot:Slot T name id) (hty:typeOf (.builtin id)=pure (.type "method_descriptor")) (hm:a8W X id r3) (ho:cR X o to) (ha:PA3 X (e :: es) t)
    (hbase:attributeBase o name X.env (eval o X.env)=eval o X.env:=by rfl)
    (hfew:((backTo cpos (starEach (e :: es) X.env)).all (fun x=>!x.1)&&(backToKw cpos (keywordEach [] X.env)).all (fun x=>x.1.isSome)
      && decide ((e :: es).length+([]:List Keyword).length+(if ([]:List Keyword).isEmpty then 0 else 1) < 30))=true:=by rfl)
    (hline:(apos.endLine == cpos.line)=true:=by rfl) (hs:starEach (e :: es) X.env=(false,eval e X.env) :: starEach es X.env:=by rfl) (hplain:(backTo cpos (starEach es X.env)).any (·.1)=false:=by rfl) :
    cR X (.Call (.Attribute o name apos) (e :: es) [] cpos) (tM3 T r3 to t):=by
  intro pins s σ H Q I h;obtain ⟨ρ,G,R,sr,g,q,kk⟩:=h;refine wpAny_Call_method_late hbase hfew hline rfl (f9 (ho pins s σ H (fun vx H1=>Ts H H1/\∃ x G1,RD X.K H1 x vx/\HR X.K H1 G1/\ah1 T G1 x/\t ρ G1 fun xs G2=>r3 x xs G2 R) I ⟨ρ,G,_,sr,g,q,fun v H1 x G1 t1 r1 g1 q1=>⟨t1,x,G1,r1,g1,q1⟩⟩) fun v s1 ⟨vx,H1,I1,r1,t1,x,G1,rx,g1,ty,q1⟩=>?_);obtain ⟨h1,h2⟩:=aqB I1 r1 (aqV g1 rx ty);refine ⟨T,id,pa,slot,hty,h1,h2,?_⟩;have hA:=ha cpos pins s1 σ H1 (fun vs H2=>Ts H1 H2/\∃ xs G2,cN X.K H2 xs vs/\HR X.K H2 G2/\r3 x xs G2 R) I1 ⟨ρ,G1,_,sr.mono t1,g1,q1,fun vs H2 xs G2 t2 r2 g2 q2=>⟨t2,xs,G2,r2,g2,q2⟩⟩;rw [hs] at hA ⊢;refine Calls.callWith_builtin (by show (false || (backTo cpos (starEach es X.env)).any (·.1))=false;rw [hplain] <;> rfl) (Calls.evalArgs_plain ?_);exact f9 hA fun us s2 ⟨vs,H2,I2,r2,t2,xs,G2,rs,g2,q2⟩=>hm pins s2 σ H2 x xs vx vs v us G2 R Q I2 (rx.mono t2) rs r1 r2 g2 q2 fun v H' d G' t3=>kk v H' d G' ((t1.trans t2).trans t3)
theorem aqW {apos cpos:Pos} (pa:PlainAttrs T) (slot:Slot T name id) (hty:typeOf (.builtin id)=pure (.type "method_descriptor")) (hm:a8W X id r3) (ho:cR X o to)
    (hbase:attributeBase o name X.env (eval o X.env)=eval o X.env:=by rfl) (hline:(apos.endLine == cpos.line)=true:=by rfl):cR X (.Call (.Attribute o name apos) [] [] cpos) (aD1 T r3 to):=by
  intro pins s σ H Q I h;obtain ⟨ρ,G,R,sr,g,q,kk⟩:=h;refine wpAny_Call_method0_late hbase hline (f9 (ho pins s σ H (fun vx H1=>Ts H H1/\∃ x G1,RD X.K H1 x vx/\HR X.K H1 G1/\ah1 T G1 x/\r3 x [] G1 R) I ⟨ρ,G,_,sr,g,q,fun v H1 x G1 t1 r1 g1 q1=>⟨t1,x,G1,r1,g1,q1⟩⟩) fun v s1 ⟨vx,H1,I1,r1,t1,x,G1,rx,g1,ty,q1⟩=>?_);obtain ⟨h1,h2⟩:=aqB I1 r1 (aqV g1 rx ty);exact ⟨T,id,pa,slot,hty,h1,h2,Calls.callWith_builtin rfl (PySem.evalArgs_none (hm pins s1 σ H1 x [] vx [] v [] G1 R Q I1 rx .nil r1 .nil g1 q1 fun v H' d G' t3=>kk v H' d G' (t1.trans t3)))⟩
noncomputable def ah2:RM3:=fun x xs G R=>match x,xs with
  | .ref p,[d]=>(match G p with
    | some (.lst ds)=>ds.length < sizeLine/\R .non (aL G p (.lst (ds++[d])))
    | _=>False)
  | _,_=>False
theorem ah3:a8W X "list.append" ah2:=a8W.of adD fun H x xs vx vs G R Q rx rs g q k=>by
  cases rx with
  | ref p =>
    cases rs with
    | nil=>exact False.elim q
    | @cons d v ds ws r rr =>
      cases rr with
      | cons _ _=>exact False.elim q
      | nil =>
        have q':(match G p with
          | some (.lst ds)=>ds.length < sizeLine/\R .non (aL G p (.lst (ds++[d])))
          | _=>False):=q
        split at q'
        . rename_i ds e1;obtain ⟨ys,f1,r1⟩:=g p _ e1;refine ⟨p,ys,v,rfl,rfl,f1,by rw [← r1.length];exact q'.1,fun _=>?_⟩;have tt:Ts H (upd H p (.lst (ys++[v]))) := .turn f1 (fun _ z=>nomatch z) (fun _ _ z=>nomatch z);exact k _ _ _ _ tt .non (g.turn (u := .lst (ds++[d])) tt ⟨_,aJ,(r1.append (.cons r .nil)).mono tt⟩) q'.2
        . exact q'.elim
  | _=>cases rs <;> exact False.elim q
noncomputable def vY:cL:=fun _ G R=>∀ p,G p=none->R (.ref p) (aL G p (.bQ false []))
theorem aD3:cR X (.Dict [] [] pos) vY:=PE.imp (PE.kf aq7) fun σ H Q h=>by
  obtain ⟨ρ,G,R,s,g,q,k⟩:=h;intro p hp kf;have sn:Same H (upd H p (.dK [])):=bU hp;exact k _ _ _ _ (.same sn) (.ref p) (g.put (u := .bQ false []) hp (.inl ⟨rfl,[],aJ,.nil⟩)) (q p (nQ g hp kf))
noncomputable def a5N:cL:=fun _ G R=>∀ p,G p=none->R (.ref p) (aL G p (.bQ true []))
theorem awP:cR X (.Dict [] [] pos) a5N:=PE.imp (PE.kf aq8) fun σ H Q h=>by
  obtain ⟨ρ,G,R,s,g,q,k⟩:=h;intro p hp kf;have sn:Same H (upd H p (.dT [])):=bU hp;exact k _ _ _ _ (.same sn) (.ref p) (g.put (u := .bQ true []) hp (.inr ⟨rfl,[],aJ,.nil⟩)) (q p (nQ g hp kf))
end
end
end L2
namespace L2
open PySem
theorem pN:bootBuiltins "isinstance" = some (.builtin "isinstance"):=by decide +kernel
theorem aa7:bootBuiltins "len" = some (.builtin "len"):=by decide +kernel
theorem aD4:bootBuiltins "min" = some (.builtin "min"):=by decide +kernel
theorem aD5:bootBuiltins "max" = some (.builtin "max"):=by decide +kernel
theorem aqX:bootBuiltins "sum" = some (.builtin "sum"):=by decide +kernel
theorem a2C:bootBuiltins "sorted" = some (.builtin "sorted"):=by decide +kernel
theorem akA:bootBuiltins "int" = some (.type "int"):=by decide +kernel
theorem awQ:bootBuiltins "bool" = some (.type "bool"):=by decide +kernel
theorem ah4:bootBuiltins "tuple" = some (.type "tuple"):=by decide +kernel
theorem awR:bootBuiltins "list" = some (.type "list"):=by decide +kernel
theorem awS:bootBuiltins "dict" = some (.type "dict"):=by decide +kernel
theorem acJ:bootBuiltins "ValueError" = some (.type "ValueError"):=by decide +kernel
end L2
namespace L2
open PySem PySem.Spec PyProof.Rows
variable {cm:Bool}{tl:List (Addr×List V)}{P:Program}{tg e:Expr}{H1:Hp}{p a:Addr}{z:Str}{lo:Int}{n:Nat}{te:cL}{ta:yH}{pos:Pos}
section
noncomputable def Its (x:Str):It:=⟨fun i _=>i < x.cps.size,fun i H v H'=>H'=H/\∃ c,x.cps[i]?=some c/\v = .str ⟨#[c]⟩,fun i _=>x.cps.size<=i⟩
theorem adQ {w:World} {K:cu} (it:Addr) (x:Str) (t:Tok):Turn cm tl P w K tg (Its x) [it] it (fun i h=>h.IsStrIter it "str_ascii_iterator" x t (min i x.cps.size)) where
  mem:=by simp
  obj:=fun i h st b hb=>by
    have e:b=it:=by simpa using hb
    subst e;obtain ⟨o,e,c,d⟩:=st;exact ⟨o,e,fun v z=>by rw [d] at z;cases z⟩
  keep:=fun i h h' st k=>let ⟨o,e,r⟩:=st;⟨o,k it (by simp) o e,r⟩
  item:=by
    intro X hP hw hK hcm ht i pins s σ H E I hf st hg;subst hP hw hK;obtain ⟨f0,f1,f2,f3,f4,f5⟩:=hf it (by simp);have hi:i < x.cps.size:=hg;rw [zm (qb hi)] at st;refine wpAny_pyNext_ascii_item st (c:=x.cps[i]) (by simp [hi]) fun h' st' kk=>?_;have I1:Inv X pins σ H { s with heap:=h',toks:=s.toks+1 }:=I.turned (fun b o hb e=>(kk.2 b hb).trans e) f0 f1 f3 f4 f5;obtain ⟨o,e1,c1,d1⟩:=id st';refine ⟨_,rfl,a9U (s:={ s with heap:=h',toks:=s.toks+1 }) e1 c1 d1 (by decide) ⟨.str ⟨#[x.cps[i]]⟩,H,I1,⟨_,rfl⟩,⟨rfl,x.cps[i],by simp [hi],rfl⟩,?_,fun b hb=>(hf b hb).1⟩⟩;rw [zm hi];exact st'
  done:=by
    intro X hP hw hK hcm ht i pins s σ H E I hf st hg;subst hP hw hK;obtain ⟨f0,f1,f2,f3,f4,f5⟩:=hf it (by simp);have hi:x.cps.size<=i:=hg;rw [Nat.min_eq_right hi] at st;exact anI (I.hnd.heap I.hok) st (by simp) fun h' eb=>⟨rfl,I.turned (t':=s.toks) (fun b o hb e=>eb b o hb e) f0 f1 f3 f4 f5⟩
  self:=fun _ _ _ _ _ st h=>wpAny_pyIter_striter_ascii st h
theorem adR {w:World} {K:cu} (it:Addr) (x:Str) (t:Tok):Turn cm tl P w K tg (Its x) [it] it (fun i h=>h.IsStrIter it "str_iterator" x t (min i x.cps.size)) where
  mem:=by simp
  obj:=fun i h st b hb=>by
    have e:b=it:=by simpa using hb
    subst e;obtain ⟨o,e,c,d⟩:=st;exact ⟨o,e,fun v z=>by rw [d] at z;cases z⟩
  keep:=fun i h h' st k=>let ⟨o,e,r⟩:=st;⟨o,k it (by simp) o e,r⟩
  item:=by
    intro X hP hw hK hcm ht i pins s σ H E I hf st hg;subst hP hw hK;obtain ⟨f0,f1,f2,f3,f4,f5⟩:=hf it (by simp);have hi:i < x.cps.size:=hg;rw [zm (qb hi)] at st;refine wpAny_pyNext_wide_item st (c:=x.cps[i]) (by simp [hi]) fun h' st' kk=>?_;have I1:Inv X pins σ H { s with heap:=h',toks:=s.toks+1 }:=I.turned (fun b o hb e=>(kk.2 b hb).trans e) f0 f1 f3 f4 f5;obtain ⟨o,e1,c1,d1⟩:=id st';refine ⟨_,rfl,a9U (s:={ s with heap:=h',toks:=s.toks+1 }) e1 c1 d1 (by decide) ⟨.str ⟨#[x.cps[i]]⟩,H,I1,⟨_,rfl⟩,⟨rfl,x.cps[i],by simp [hi],rfl⟩,?_,fun b hb=>(hf b hb).1⟩⟩;rw [zm hi];exact st'
  done:=by
    intro X hP hw hK hcm ht i pins s σ H E I hf st hg;subst hP hw hK;obtain ⟨f0,f1,f2,f3,f4,f5⟩:=hf it (by simp);have hi:x.cps.size<=i:=hg;rw [Nat.min_eq_right hi] at st;exact anJ (I.hnd.heap I.hok) st (by simp) fun h' eb=>⟨rfl,I.turned (t':=s.toks) (fun b o hb e=>eb b o hb e) f0 f1 f3 f4 f5⟩
  self:=fun _ _ _ _ _ st h=>wpAny_pyIter_striter_wide st h
inductive Src where
  | lst (p:Addr) (xs:List D) | imm (xs:List D) | zip (p q:Addr) (xs ys:List D) | itm (p:Addr) (o:Obj) (kvs:List (DK×D)) | key (p:Addr) (o:Obj) (t:Bool) (kvs:List (DK×D)) | tpl (p:Addr) (xs:List D) | enu (p:Addr) (xs:List D)
noncomputable def enm (xs:List D):List D:=xs.zipIdx.map fun z => .tup [.int z.2,z.1]
noncomputable def prs (xs ys:List D):List D:=(xs.zip ys).map fun z => .tup [z.1,z.2]
noncomputable def Src.items:Src->List D
  | .lst _ xs=>xs
  | .imm xs=>xs
  | .zip _ _ xs ys=>prs xs ys
  | .itm _ _ kvs=>kvs.map fun z => .tup [dkD z.1,z.2]
  | .key _ _ _ kvs=>kvs.map fun z=>dkD z.1
  | .tpl _ xs=>xs
  | .enu _ xs=>enm xs
noncomputable def Src.ok (G:Gp):Src->Prop
  | .lst p xs=>bY G p=some xs
  | .imm _=>True
  | .zip p q xs ys=>bY G p=some xs/\bY G q=some ys
  | .itm p o kvs=>G p=some (.rdc o false kvs)
  | .key p o t kvs=>G p=some (.rdc o t kvs)
  | .tpl p xs=>G p=some (.tpl xs)
  | .enu p xs=>G p=some (.tpl xs)
noncomputable def aa9 (K:Fg) (H1:Hp) (src:Src) (J:It):Prop:=∀ H2 G2,Ts H1 H2->HR K H2 G2->src.ok G2 ->
  (∀ i,i < src.items.length->J.go i H2)/\(∀ i v H',i < src.items.length->J.yld i H2 v H'->Same H2 H'/\∃ d,src.items[i]?=some d/\RD K H' d v)/\J.stop src.items.length H2
noncomputable abbrev TI3:=aO->Gp->(Src->Gp->Prop)->Prop
noncomputable def upI (K:Fg) (t:TI3):TI:=fun σ H Q=>∃ ρ G R,SR K H ρ σ/\HR K H G/\t ρ G R/\∀ src J H' G',Ts H H'->HR K H' G'->aa9 K H' src J->R src G'->Q J H'
noncomputable abbrev PI3 (X:Cx) (tg iter:Expr) (t:TI3):Prop:=PI X tg iter (upI X.K t)
noncomputable def signs (z:Str):List D:=z.cps.toList.map fun c => .str ⟨#[c]⟩
noncomputable def a71 (te:cL):TI3:=fun ρ G R=>te ρ G fun x G1=>match x with
  | .ref p=>(match bY G1 p with
    | some xs=>R (.lst p xs) G1
    | none=>False)
  | .tup xs=>R (.imm xs) G1
  | .str z=>R (.imm (signs z)) G1
  | _=>False
variable {xs:List D}
theorem adS {K:Fg}:aa9 K H1 (.lst p xs) (Itl K p):=fun H2 G2 t g ok=>by
  obtain ⟨vs,hq,rv⟩:=d8 g (show bY G2 p=some xs from ok);refine ⟨fun i hi=>?_,fun i v H' hi hy=>?_,⟨vs,hq,xq rv.length.symm⟩⟩
  . have hi':i < xs.length:=hi;obtain ⟨y,e1,_⟩:=rv.get (dg hi');exact ⟨vs,y,hq,e1⟩
  . obtain ⟨rfl,hy⟩:=hy;obtain ⟨d,e1,e2⟩:=rv.awC (hy vs hq);exact ⟨.refl _,d,e1,e2⟩
theorem ah5 {K:Fg} {vs:List V} (hq:SqT K H1 a vs) (rv:cN K H1 xs vs):aa9 K H1 (.imm xs) (Itt K a):=fun H2 G2 t g ok=>by
  have hq2:=t.sqT hq;have rv2:=rv.mono t;refine ⟨fun i hi=>?_,fun i v H' hi hy=>?_,⟨vs,hq2,xq rv.length.symm⟩⟩
  . have hi':i < xs.length:=hi;obtain ⟨y,e1,_⟩:=rv2.get (dg hi');exact ⟨vs,y,hq2,e1⟩
  . obtain ⟨rfl,hy⟩:=hy;obtain ⟨d,e1,e2⟩:=rv2.awC (hy vs hq2);exact ⟨.refl _,d,e1,e2⟩
theorem aaA {K:Fg}:aa9 K H1 (.imm (signs z)) (Its z):=fun H2 G2 t g ok=>by
  have hl:(signs z).length=z.cps.size:=by simp [signs]
  refine ⟨fun i hi=>?_,fun i v H' hi hy=>?_,?_⟩
  . have:i < (signs z).length:=hi;rw [hl] at this;exact this
  . obtain ⟨rfl,c,hc,rfl⟩:=hy;exact ⟨.refl _,.str ⟨#[c]⟩,by simp [Src.items,signs,hc],.str _⟩
  . show z.cps.size<=(signs z).length;rw [hl];exact au _
theorem ah6 {K:Fg}:aa9 K H1 (.imm ((ji n).map fun (i:Nat) => .int (lo+(i:Int)))) (Itr lo n):=fun H2 G2 t g ok=>by
  refine ⟨fun i hi=>?_,fun i v H' hi hy=>?_,?_⟩
  . have hi':i < n:=by simpa [Src.items] using hi
    exact hi'
  . obtain ⟨rfl,rfl⟩:=hy;have hi':i < n:=by simpa [Src.items] using hi
    exact ⟨.refl _,.int (lo+i),by simp [Src.items,hi'],.int _⟩
  . show n<=_;simp [Src.items]
section
variable {X:Cx} {tg:Expr}
theorem PI.imp {t t':TI} (h:PI X tg e t) (k:∀ σ H Q,t' σ H Q->t σ H Q):PI X tg e t':=fun pins s σ H Q I q=>h pins s σ H Q I (k _ _ _ q)
theorem aJ2 {l:Expr} (hl:cR X l te):PI3 X tg l (a71 te):=by
  intro pins s σ H R I h;obtain ⟨ρ,G,R3,sr,g,q,k⟩:=h
  refine f9 (hl pins s σ H (fun v H1=>Ts H H1/\∃ x G1,RD X.K H1 x v/\HR X.K H1 G1/\(match x with
    | .ref p=>(match bY G1 p with
      | some xs=>R3 (.lst p xs) G1
      | none=>False)
    | .tup xs=>R3 (.imm xs) G1
    | .str z=>R3 (.imm (signs z)) G1
    | _=>False)) I ⟨ρ,G,_,sr,g,q,fun v H1 x G1 t1 r g1 q1=>⟨t1,x,G1,r,g1,q1⟩⟩) fun v s1 ⟨x,H1,I1,r1,t1,d,G1,rd,g1,q1⟩=>?_
  cases rd with
  | ref a =>
    have q1':(match bY G1 a with
      | some xs=>R3 (.lst a xs) G1
      | none=>False):=q1
    split at q1'
    . rename_i xs e;cases r1;obtain ⟨vs,hq,rv⟩:=d8 g1 e;obtain ⟨its,rv',p,hz⟩:=I1.list hq;refine wpAny_pyIter_list p.isList ?_;refine ⟨s1.heap.objs.size,[s1.heap.objs.size],_,_,H1,rfl,I1.kept (t':=s1.toks) fun b o e=>ao _ e,ad6 a _,⟨_,cg _ rfl,rfl,rfl⟩,fun b hb=>?_,k _ _ H1 G1 t1 g1 adS q1'⟩;have e:b=s1.heap.objs.size:=by simpa using hb
      subst e;exact I1.a6T (au _) (I1.hok.fresh (au _))
    . exact q1'.elim
  | @tup a vs xs hq rv =>
    cases r1;obtain ⟨its,rv',p,hz⟩:=I1.tuple hq;refine wpAny_pyIter_tuple (show s1.heap.IsTuple a its.toArray from p) ?_;refine ⟨s1.heap.objs.size,[s1.heap.objs.size],_,_,H1,rfl,I1.kept (t':=s1.toks) fun b o e=>ao _ e,a9V a _,⟨_,cg _ rfl,rfl,rfl⟩,fun b hb=>?_,k _ _ H1 G1 t1 g1 (ah5 hq rv) q1⟩;have e:b=s1.heap.objs.size:=by simpa using hb
    subst e;exact I1.a6T (au _) (I1.hok.fresh (au _))
  | str z =>
    obtain ⟨t,rfl⟩:=r1;cases ha:z.cps.all (· < 128)
    . refine wpAny_pyIter_wide ha ?_;refine ⟨s1.heap.objs.size,[s1.heap.objs.size],_,_,H1,rfl,I1.kept (t':=s1.toks) fun b o e=>ao _ e,adR _ z t,?_,fun b hb=>?_,k _ _ H1 G1 t1 g1 aaA q1⟩
      . rw [Nat.zero_min];exact ⟨_,cg _ rfl,rfl,rfl⟩
      . have e:b=s1.heap.objs.size:=by simpa using hb
        subst e;exact I1.a6T (au _) (I1.hok.fresh (au _))
    . refine wpAny_pyIter_ascii ha ?_;refine ⟨s1.heap.objs.size,[s1.heap.objs.size],_,_,H1,rfl,I1.kept (t':=s1.toks) fun b o e=>ao _ e,adQ _ z t,?_,fun b hb=>?_,k _ _ H1 G1 t1 g1 aaA q1⟩
      . rw [Nat.zero_min];exact ⟨_,cg _ rfl,rfl,rfl⟩
      . have e:b=s1.heap.objs.size:=by simpa using hb
        subst e;exact I1.a6T (au _) (I1.hok.fresh (au _))
  | _=>exact q1.elim
noncomputable def acK (lo hi:Int):List D:=(ji (hi - lo).toNat).map fun (i:Nat) => .int (lo+(i:Int))
noncomputable def a72 (ta:yH):TI3:=fun ρ G R=>ta ρ G fun xs G1=>match xs with
  | [.int j]=>-(2 ^ 62)<=j/\j < 2 ^ 62/\R (.imm (acK 0 j)) G1
  | _=>False
theorem aD7 {a:Expr} {p:Pos} (hg:Gl X "range") (hm:X.mg "range" = none) (ha:PA3 X [a] ta) (hs:starEach [a] X.env=[(false,eval a X.env)]):PI3 X tg (.Call (.Name "range" p) [a] [] pos) (a72 ta) :=
  PI.imp (ad7 hg hm ha hs) fun σ H Q h=>by
  obtain ⟨ρ,G,R,s,g,q,k⟩:=h;refine ⟨ρ,G,_,s,g,q,fun vs H1 ds G1 t1 r g1 h1=>?_⟩;cases r with
  | nil=>exact h1.elim
  | cons r rr =>
    cases rr with
    | cons _ _=>cases r <;> exact False.elim h1
    | nil =>
      cases r with
      | int j =>
        obtain ⟨l1,l2,h1⟩:=h1;refine ⟨j,rfl,l1,l2,k _ _ H1 G1 t1 g1 ?_ h1⟩;unfold acK;rw [show (j - 0).toNat=j.toNat by omega];exact ah6
      | _=>exact False.elim h1
end
end
variable {scope:Scope}{env:Env}{i j:Nat}
section
noncomputable def tE (cells:List (Str×Addr)):List (Str×NameKind)->List (Str×Addr)->List (Str×Addr)
  | [],cs=>cs
  | (n,k) :: r,cs=>tE cells r (if k = .free then (match cells.lookup n with
    | some a=>(n,a) :: cs
    | none=>cs) else cs)
theorem a73 (h:∀ y∈scope.names,y.2 = .free->∃ c,env.cells.lookup y.1=some c):closureFor scope env=pure (tE env.cells scope.names []):=by
  unfold closureFor
  have all:∀ (l:List (Str×NameKind)) (cs:List (Str×Addr)),(∀ y∈l,y.2 = .free->∃ c,env.cells.lookup y.1=some c) ->
      (forIn l cs fun (x:Str×NameKind) (r:List (Str×Addr))=>(if (x.2 == NameKind.free)=true then do
        let a ← cellOf env x.1
        pure (ForInStep.yield ((x.1,a) :: r)) else pure (ForInStep.yield r):Sem (ForInStep (List (Str×Addr)))))=(pure (tE env.cells l cs):Sem (List (Str×Addr))):=by
    intro l
    induction l with
    | nil=>intro cs _;rfl
    | cons y r ih =>
      intro cs hl;obtain ⟨n,k⟩:=y;rw [List.forIn_cons];by_cases hk:k = .free
      . subst hk;obtain ⟨c,hc⟩:=hl (n,.free) (by simp) rfl;have e:cellOf env n=pure c:=by unfold cellOf;rw [hc]
        simp only [beq_self_eq_true,if_true,e];show (forIn r ((n,c) :: cs) _:Sem _)=_;rw [ih _ fun y hy=>hl y (by simp [hy])];simp only [tE,if_true,hc]
      . have hk':(k == NameKind.free)=false:=by simpa using hk
        simp only [hk',jx,if_false];show (forIn r cs _:Sem _)=_;rw [ih _ fun y hy=>hl y (by simp [hy])];simp only [tE,if_neg hk]
  have z:=all scope.names [] h;exact congrArg (fun m=>m >>= fun cs=>pure cs) z
theorem nG {cells:List (Str×Addr)}:∀ {l:List (Str×NameKind)} {cs:List (Str×Addr)} {y:Str} {c:Addr},(tE cells l cs).lookup y=some c->(∀ c,cs.lookup y=some c->cells.lookup y=some c)->cells.lookup y=some c
  | [],cs,y,c,h,k=>k c h
  | (n,kd) :: r,cs,y,c,h,k=>by
    unfold tE at h;refine nG h fun c' h'=>?_;by_cases hk:kd = .free
    . rw [if_pos hk] at h';split at h'
      . rename_i a ha;rw [ni] at h';split at h'
        . rename_i e;have e':y=n:=beq_iff_eq.mp e;subst e';rw [ha];exact h'
        . exact k c' h'
      . exact k c' h'
    . rw [if_neg hk] at h';exact k c' h'
theorem aaB {cells:List (Str×Addr)}:∀ {l:List (Str×NameKind)} {cs:List (Str×Addr)} {y:Str},(∃ c,cs.lookup y=some c)->∃ c,(tE cells l cs).lookup y=some c
  | [],cs,y,h=>h
  | (n,kd) :: r,cs,y,h=>by
    unfold tE;refine aaB ?_;by_cases hk:kd = .free
    . rw [if_pos hk];split
      . rw [ni];split
        . exact ⟨_,rfl⟩
        . exact h
      . exact h
    . rw [if_neg hk];exact h
theorem a74 {cells:List (Str×Addr)} {y:Str} {c:Addr} (hc:cells.lookup y=some c):∀ {l:List (Str×NameKind)} {cs:List (Str×Addr)},(y,NameKind.free)∈l->∃ c,(tE cells l cs).lookup y=some c
  | [],cs,h=>by simp at h
  | (n,kd) :: r,cs,h=>by
    unfold tE;rcases ig.mp h with e | h
    . cases e;refine aaB ?_;rw [if_pos rfl,hc];simp
    . exact a74 hc h
theorem mem_of_lookup {α:Type}:∀ {l:List (Str×α)} {y:Str} {k:α},l.lookup y=some k->(y,k)∈l
  | [],_,_,h=>by simp at h
  | (n,kd) :: r,y,k,h=>by
    rw [ni] at h;split at h
    . rename_i e;have e':y=n:=beq_iff_eq.mp e;cases h;subst e';simp
    . exact jr _ (mem_of_lookup h)
structure a3T (X:Cx) (xs:List Str) (scope:Scope):Prop where
  kind:scope.kind = .function
  akB:∀ y∈scope.names,y.2 ≠ .cell
  locs:∀ y∈scope.names,y.2 = .local->scope.names.lookup y.1=some .local
  var:∀ x∈xs,scope.names.lookup x=some .local
  frees:∀ y∈scope.names,y.2 = .free->X.env.kindOf y.1=some .cell∨X.env.kindOf y.1=some .free
  out:∀ x∈xs,x ∉ X.N
  nd:xs.Nodup
  only:∀ y∈X.N,scope.names.lookup y≠some .local
noncomputable abbrev vZ (X:Cx) (xs:List Str) (scope:Scope) (C:Addr) (s₃:Shared) (H₃:Hp) (fp:List Addr) (pins:List (Addr×Obj)):Cx :=
  { X with N:=xs++X.N,s₀:=s₃,H₀:=H₃,env:=compEnvC scope (tE X.env.cells scope.names []) C X.env,outer:=X.stack,stack:=X.stack,ex:=fp,fn:=fun _=>false,pn:=X.pn++pins,xe:=fun _ _=>False }
noncomputable def nn (xs:List Str) (σ:St):St:=xs.map (fun _=>none)++σ
theorem aqY {xs:List Str} {σ:St} {v:V} (h:(nn xs σ)[i]?=some (some v)):∃ j,i=xs.length+j/\σ[j]?=some (some v):=by
  unfold nn at h;by_cases c:i < xs.length
  . rw [ug (by simpa using c)] at h;simp at h
  . rw [ql (by simpa using c)] at h;exact ⟨i - xs.length,by omega,by simpa using h⟩
theorem alY {α:Type} {xs ys:List α}:(xs++ys)[xs.length+j]?=ys[j]?:=by
  rw [ql (by omega)];congr 1;omega
theorem fY {env:Env} {y:Str} {k:NameKind}:∀ {names:List (Str×NameKind)},(names.map fun (n,k)=>if (k == .free&&env.scope.kind == .function&&env.kindOf n == some .cell) then (n,.cell) else (n,k)).lookup y=some k ->
    ∃ k',names.lookup y=some k'/\(k=k'∨(k = .cell/\k' = .free))
  | [],h=>by simp at h
  | (n,kd) :: r,h=>by
    rw [dj] at h;by_cases hc:(kd == .free&&env.scope.kind == .function&&env.kindOf n == some .cell)=true
    . have h':qe y ((n,NameKind.cell) :: (r.map fun (n,k)=>if (k == .free&&env.scope.kind == .function&&env.kindOf n == some .cell) then (n,.cell) else (n,k)))=some k:=by
        simp only [hc,if_true] at h;exact h
      rw [ni] at h' ⊢;cases hx:y == n with
      | true =>
        rw [hx] at h';cases h';refine ⟨kd,rfl,.inr ⟨rfl,?_⟩⟩;simp only [ak,beq_iff_eq] at hc;exact hc.1.1
      | false =>
        rw [hx] at h';exact fY h'
    . have h':qe y ((n,kd) :: (r.map fun (n,k)=>if (k == .free&&env.scope.kind == .function&&env.kindOf n == some .cell) then (n,.cell) else (n,k)))=some k:=by
        simp only [hc,if_false] at h;exact h
      rw [ni] at h' ⊢;cases hx:y == n with
      | true =>
        rw [hx] at h';cases h';exact ⟨_,rfl,.inl rfl⟩
      | false =>
        rw [hx] at h';exact fY h'
end
variable {b:Addr}{tk:Nat}{H':Hp}{h':Heap}
section
section
variable {X:Cx} {xs:List Str} {scope:Scope} {C:Addr} {pins:List (Addr×Obj)} {σ:St} {H H₃:Hp} {s s₃:Shared} {fp:List Addr}
theorem aeZ (I:Inv X pins σ H s) (hb:b∈frs X.stack):b=X.env.locals∨b∈X.fs:=ig.mp (I.ajP b hb)
theorem aD8 (I:Inv X pins σ H s) (c:a3T X xs scope) (hC:s.heap.objs.size<=C) (hf:∀ b∈fp,a6S X pins H b/\b < s.heap.objs.size):(vZ X xs scope C s H fp pins).Ok where
  mod:=I.ok.mod
  kind:=c.kind
  glob:=I.ok.glob
  blt:=I.ok.blt
  above:=hC
  inj:=fun y z d h1 h2=>I.ok.inj y z d (nG h1 fun _ h=>by simp at h) (nG h2 fun _ h=>by simp at h)
  has:=fun y h=>by
    have hy:(y,NameKind.free)∈scope.names:=by
      rcases h with h | h
      . obtain ⟨k',e,z⟩:=fY (env:=X.env) (names:=scope.names) h;rcases z with z | ⟨_,z⟩
        . subst z;exact absurd rfl (c.akB _ (mem_of_lookup e))
        . subst z;exact mem_of_lookup e
      . obtain ⟨k',e,z⟩:=fY (env:=X.env) (names:=scope.names) h;rcases z with z | ⟨z,_⟩
        . subst z;exact mem_of_lookup e
        . cases z
    obtain ⟨d,hd⟩:=I.ok.has y (c.frees _ hy rfl);exact a74 hd hy
  cab:=fun _ _ h=>absurd h (by simp)
  hd:=I.ok.hd
  frames:=I.ok.frames
  stk := .inl rfl
  exf:=fun b hb=>by
    obtain ⟨⟨f0,f1,f2,f3,f4,f5⟩,lt⟩:=hf b hb;exact ⟨dw (dz lt hC),fun y d h=>f4 y d (nG h fun _ h=>by simp at h)⟩
  bs:=fun b o e=>I.bs b o e
  bsz:=jj I.ok.bsz I.sz
  a8S:=fun b o e hb=>by
    obtain ⟨⟨f0,f1,f2,f3,f4,f5⟩,lt⟩:=hf b hb;rcases f3 with z | z
    . exact I.ok.a8S b o e z
    . exact absurd (dz (bh e) (jj I.ok.bsz z)) (kh _)
  a9Q:=fun b hb hs=>by
    obtain ⟨⟨f0,f1,f2,f3,f4,f5⟩,lt⟩:=hf b hb;rcases aeZ I hs with z | z
    . exact f1 z
    . exact f2 z
  vV:=I.stack
  frf:=fun b hb=>I.aeH b hb
theorem aD9 (I:Inv X pins σ H s) (c:a3T X xs scope) (hC:s.heap.objs.size=C) (hf:∀ b∈fp,a6S X pins H b/\b < s.heap.objs.size) {h₁:Heap} {m:Str->Option Value} (hn:h₁.Ns C m) (hk:∀ b o,s.heap.get? b=some o->h₁.get? b=some o) :
    Inv (vZ X xs scope C s H fp pins) [] (nn xs σ) H { s with heap:=h₁,toks:=tk }:=by
  have lt:∀ b o,s.heap.get? b=some o->b≠C:=fun b o e=>by rw [← hC];exact dw (bh e)
  refine ⟨aD8 I c (xq hC) hf,rfl,I.bare,Un.kept hk,⟨m,hn,fun i y v e1 e2 e3=>?_⟩,fun y d e=>?_,I.hok.fresh (xq hC),fun y d e=>I.m8 y d (nG e fun _ h=>by simp at h),fun p hp=>?_,I.hok.kept hk,by simp [nn,I.len],I.hnd,I.tup⟩
  . obtain ⟨i,rfl,e2'⟩:=aqY e2
    . have e1':X.N[i]?=some y:=alY.symm.trans e1;have hy:y∈X.N:=je e1'
      have free:(y,NameKind.free)∈scope.names:=by
        have e3':∃ k,(relabel scope X.env).names.lookup y=some k/\(k = .local∨k = .cell∨k = .free):=by
          rcases e3 with h | h | h
          . exact ⟨_,h,.inl rfl⟩
          . exact ⟨_,h,.inr (.inl rfl)⟩
          . exact ⟨_,h,.inr (.inr rfl)⟩
        obtain ⟨k,h,hk⟩:=e3';obtain ⟨k',e,z⟩:=fY (env:=X.env) (names:=scope.names) h;rcases z with z | ⟨_,z⟩
        . subst z;rcases hk with rfl | rfl | rfl
          . exact absurd e (c.only y hy)
          . exact absurd rfl (c.akB _ (mem_of_lookup e))
          . exact mem_of_lookup e
        . subst z;exact mem_of_lookup e
      have hkd:=c.frees _ free rfl;obtain ⟨m',hn',hlo⟩:=I.loc;have vis:Vis X.env.scope y:=hkd.elim (fun z => .inr (.inl z)) fun z => .inr (.inr z);obtain ⟨u,r,l⟩:=hlo i y v e1' e2' vis;refine ⟨u,r,.inr ⟨?_,?_⟩⟩
      . rcases e3 with h | h | h
        . obtain ⟨k',e,z⟩:=fY (env:=X.env) (names:=scope.names) h;rcases z with z | ⟨z,_⟩
          . subst z;exact absurd e (c.only y hy)
          . cases z
        . exact .inl h
        . exact .inr h
      . rcases l with ⟨hl,_⟩ | ⟨_,d,hd,hcell⟩
        . rcases hkd with z | z
          . rw [z] at hl;cases hl
          . rw [z] at hl;cases hl
        . obtain ⟨d',hd'⟩:=a74 (cells:=X.env.cells) (l:=scope.names) (cs:=[]) hd free;have:=nG hd' fun _ h=>by simp at h
          rw [hd] at this;cases this;refine ⟨d,hd',?_⟩;obtain ⟨o,ho,hod⟩:=hcell;exact ⟨o,hk _ _ ho,hod⟩
  . obtain ⟨w,o,ho,hod⟩:=I.cell y d (nG e fun _ h=>by simp at h);exact ⟨w,o,hk _ _ ho,hod⟩
  . have hp':p∈X.pn++pins:=by simpa using hp
    obtain ⟨e,n,ne,nf,d⟩:=I.pin p hp';refine ⟨hk _ _ e,n,lt _ _ e,fun z=>?_,d⟩;rcases aeZ I z with z | z
    . exact ne z
    . exact nf z
theorem awT (I:Inv X pins σ H s) (hC:s.heap.objs.size=C) (hf:∀ b∈fp,a6S X pins H b/\b < s.heap.objs.size) {a5B:List (Addr×Obj)} {σ':St} {s':Shared} (J:Inv (vZ X xs scope C s H fp pins) a5B σ' H' s') (hs:iz C s'.heap h') :
    Inv X pins σ H' { s' with heap:=h',toks:=tk }:=by
  have ne:∀ b o,s.heap.get? b=some o->b≠C:=fun b o e=>by rw [← hC];exact dw (bh e)
  have u:Un (frs X.stack) fp H H' s.heap s'.heap:=J.base;have hfree:H' C=none:=J.free;refine I.call' (ch:=fp) J.os ⟨fun b o e n hb hx=>?_,fun b o e n hb hx=>?_,u.free,fun b o e hx=>?_,u.tups,u.m7,u.uY⟩ (fun b o e=>?_) J.bare (fun b hb=>?_)
  . exact (hs.2 b (ne b o e)).trans (u.keep b o e n hb hx)
  . obtain ⟨sl,e1⟩:=u.slot b o e n hb hx;exact ⟨sl,(hs.2 b (ne b o e)).trans e1⟩
  . obtain ⟨o',e1⟩:=u.there b o e hx;exact ⟨o',(hs.2 b (ne b o e)).trans e1⟩
  . refine (J.hok b o e).stay (fun d w hd q=>(hs.2 d ?_).trans q) (fun _ q=>q) fun _ _ q=>q;rintro rfl;rcases hd with z | z
    . rw [z] at hfree;rw [e] at hfree;cases hfree
    . rw [hfree] at z;cases z
  . obtain ⟨⟨f0,f1,f2,f3,f4,f5⟩,lt⟩:=hf b hb;exact ⟨f3,f1,f4,f5⟩
end
end
variable {X:Cx}{pins:List (Addr×Obj)}{C it:Addr}{s:Shared}{R:j4}{iter:Expr}{H:Hp}{ρ:aO}{G1:Gp}{fp:List Addr}
section
noncomputable def af0:TT3:=fun _ G R=>R true G
noncomputable def aqZ (X:Cx) (ifs:List Expr) (tc:TT3):Prop :=
  ∀ (pins:List (Addr×Obj)) (s:Shared) (σ:St) (H:Hp) (Q:Bool->Hp->Prop),Inv X pins σ H s->upT X.K tc σ H Q ->
    wpAny (model X.prog X.w) X.A (forIn ifs true fun c r=>if r=true then do let ok ← isTrue c X.env (eval c X.env);pure (ForInStep.yield ok) else pure (ForInStep.yield r)) (TP X pins σ Q) X.xe s
theorem awU:aqZ X [] af0:=fun pins s σ H Q I h=>by
  obtain ⟨ρ,G,R,sr,g,q,k⟩:=h;exact aq ⟨H,I,k true H G (.refl H) g q⟩
theorem awV {c:Expr} {tc:TT3} (hc:PT3 X c tc):aqZ X [c] tc:=fun pins s σ H Q I h=>by
  rw [List.forIn_cons];simp only [if_true];refine aj (aj (f9 (hc pins s σ H Q I h) fun b s1 q=>?_));exact aq (aq q)
section
variable {X:Cx} {x:Str} {xs:List Str} {tgt:Expr} {dv:D->Option (List D)} {scope:Scope} {iter elt:Expr} {ifs:List Expr} {px pos:Pos} {ti:TI3} {tc:TT3} {te:cL}
structure aDA (X:Cx) (pins:List (Addr×Obj)) (H':Hp) (C:Addr) (h:Heap):Prop where
  ns:∃ m,h.Ns C m
  free:H' C=none
  loc:C≠X.env.locals
  young:X.s₀.heap.objs.size<=C
  cells:∀ y d,X.env.cells.lookup y=some d->d≠C
  pins:∀ p∈X.pn++pins,p.1≠C
theorem aDA.turn {σ:St} (o:aDA X pins H' C s.heap) (I:Inv X pins σ H' s) (hs:iz C s.heap h'):Inv X pins σ H' { s with heap:=h' } :=
  I.turned (t':=s.toks) (fun b ob hb e=>(hs.2 b hb).trans e) o.free o.loc (.inr o.young) o.cells o.pins
noncomputable def aDB (Y:Cx) (tgt:Expr) (xs:List Str) (dv:D->Option (List D)) (σ:St):Prop:=∀ (pins:List (Addr×Obj)) (s:Shared) (H:Hp) (v:V) (u:Value) (d:D) (ds:List D),Inv Y pins (nn xs σ) H s->RelV v u->RD Y.K H d v->dv d=some ds ->
  wpAny (model Y.prog Y.w) Y.A (assign tgt Y.env u) (fun _ s'=>∃ vs,cN Y.K H ds vs/\Inv Y pins (vs.map some++σ) H s') Y.xe s
theorem ar0 {K:Fg} {H:Hp} {ρ:aO} {σ:St} (s:SR K H ρ σ):∀ {ds:List D} {vs:List V},cN K H ds vs->SR K H (ds.map some++ρ) (vs.map some++σ)
  | _,_,.nil=>s
  | _,_,.cons h r => .some h (ar0 s r)
theorem ar3 {prog:Program} {w:World} {A:Around} {R:Result->Shared->Prop} {elt target:Expr} {ifs:List Expr} {it acc:Value} (J:Nat->Shared->Prop)
    (turn:∀ n s,J n s->wpAny (model prog w) A (pyNext it) (fun r s1=>match r with
      | none=>R (.ok .next) s1
      | some v=>wpAny (model prog w) A (letOwnedTupleGo target it v) (fun _ s1'=>wpAny (model prog w) A (assign target env v) (fun _ s2 =>
          wpAny (model prog w) A (forIn ifs true fun c r=>if r=true then do let ok ← isTrue c env (eval c env);pure (ForInStep.yield ok) else pure (ForInStep.yield r)) (fun ok s3 =>
            if ok=true then wpAny (model prog w) A (eval elt env) (fun x s4 =>
              wpAny (model prog w) A (call (.builtin "list.append") [acc,x]) (fun _ s5=>∃ m,m < n/\J m s5) (notedBy (model prog w) A env fun e s'=>R (.error e) s') s4) (notedBy (model prog w) A env fun e s'=>R (.error e) s') s3
            else ∃ m,m < n/\J m s3) (notedBy (model prog w) A env fun e s'=>R (.error e) s') s2) (notedBy (model prog w) A env fun e s'=>R (.error e) s') s1') (notedBy (model prog w) A env fun e s'=>R (.error e) s') s1) (notedBy (model prog w) A env fun e s'=>R (.error e) s') s)
    (n:Nat) (h:J n s):codeAny (model prog w) A (.compLoop (.ListComp elt [⟨target,iter,ifs,0⟩] scope pos) 0 it acc env) R s:=by
  refine codeAny_loop rfl J (fun n s hJ=>?_) n h;show wpAny _ A ((compTurn (.ListComp elt [⟨target,iter,ifs,0⟩] scope pos) 0 it acc env).onRaise (fun z=>do noteFrame z env;theTreesLotGoes z)) _ _ s;refine wpAny_noted ?_;rw [compTurn_list];refine aj (wpAny_standAt (aj (wpAny_mono (turn n s hJ) (fun r s1 h1=>?_) fun _ _ z=>z)));cases r with
  | none=>exact aq h1
  | some v =>
    refine aj (wpAny_mono h1 (fun _ s1' h1'=>?_) fun _ _ z=>z);refine aj (wpAny_mono h1' (fun _ s2 h2=>aj (wpAny_mono h2 (fun ok s3 h3=>?_) fun _ _ z=>z)) fun _ _ z=>z);cases ok with
    | false=>exact aq ⟨rfl,h3⟩
    | true=>exact aj (aj (wpAny_mono h3 (fun x s4 h4=>aj (wpAny_mono h4 (fun _ s5 h5=>aq (aq ⟨rfl,h5⟩)) fun _ _ z=>z)) fun _ _ z=>z))
theorem aoE (c:a3T X xs scope) (hT:∀ C s H fp pins σ,aDB (vZ X xs scope C s H fp pins) tgt xs dv σ) (hdv:∀ d ds,dv d=some ds->ds.length=xs.length) (hc:∀ C s H fp pins,aqZ (vZ X xs scope C s H fp pins) ifs tc) (he:∀ C s H fp pins,cR (vZ X xs scope C s H fp pins) elt te) {s2:Shared} {σ:St} {H2:Hp} {tn:Nat->Heap->Prop} {J:It} {src:Src} {RR:Value->Addr->Result->Shared->Prop} (sr:SR X.K H ρ σ) (I2:Inv X pins σ H2 s2) (T:Turn X.calm X.tp X.prog X.w X.K tgt J fp it tn) (st2:tn 0 s2.heap) (f2:∀ b∈fp,a6S X pins H2 b) (t1:Ts H H2) (g1:HR X.K H2 G1) (sj:aa9 X.K H2 src J)
    (hlen:src.items.length < sizeLine) (body:∀ p,G1 p=none->∃ P:Nat->List D->Gp->Prop,P 0 [] (aL G1 p (.lst [])) /\
      (∀ k ds G,k<=src.items.length->P k ds G->src.ok G/\G p=some (.lst ds)/\ds.length<=k) /\
      (∀ k d ds G,src.items[k]?=some d->P k ds G->∃ ys,dv d=some ys/\tc (ys.map some++ρ) G fun b G2=>if b=true then te (ys.map some++ρ) G2 fun y G3=>G3 p=some (.lst ds)/\P (k+1) (ds++[y]) (aL G3 p (.lst (ds++[y]))) else P (k+1) ds G2) /\
      ∀ ds G,P src.items.length ds G->∃ G0,Le G0 G/\R (.ref p) G0)
    (hRR:∀ Da C s5 H' G0,Inv X pins σ H' s5->aDA X pins H' C s5.heap->Ts H H'->HR X.K H' G0->R (.ref Da) G0->RR (.ref Da) C (.ok .next) s5) :
    wpAny (model X.prog X.w) X.A (newList []) (fun acc s₃=>wpAny (model X.prog X.w) X.A (newFunctionEnv scope X.env.globals (tE X.env.cells scope.names []) [] X.env.qual none .none (some X.env)) (fun cenv s₄ =>
      codeAny (model X.prog X.w) X.A (.compStart (.ListComp elt [⟨tgt,iter,ifs,0⟩] scope pos) 0 (.ref it) acc { cenv with scope:=relabel scope X.env }) (RR acc cenv.locals) s₄) X.xe s₃) X.xe s2:=by
  refine wpAny_newObj_type ?_;have I3:=I2.aHY (its:=[]) (ys:=[]) (t':=s2.toks) .nil (by decide);have hD:H2 s2.heap.objs.size=none:=I2.fresh;have kf:=wN I3;have gD:G1 s2.heap.objs.size=none:=nQ g1 hD kf;obtain ⟨P,p0,pok,pst,pend⟩:=body _ gD
  have ltD:∀ b∈fp,b < s2.heap.objs.size:=fun b hb=>by
    obtain ⟨o,e,_⟩:=T.obj 0 _ st2 b hb;exact bh e
  have hsz3:(s2.heap.push { cls := .type "list",data := .seq ([]:List Value).toArray }).objs.size=s2.heap.objs.size+1:=a0d ..
  have hf3:∀ b∈fp,a6S X pins (upd H2 s2.heap.objs.size (.lst [])) b/\b < (s2.heap.push { cls := .type "list",data := .seq ([]:List Value).toArray }).objs.size:=fun b hb=>by
    obtain ⟨f0,fr⟩:=f2 b hb;exact ⟨⟨by rw [aX (dw (ltD b hb))];exact f0,fr⟩,by rw [hsz3];exact vf (ltD b hb)⟩
  refine wpAny_newFunctionEnv c.akB (by intro y hy;simp at hy) (fun h₁ hns₁ hsb₁=>?_) c.kind;dsimp only at hns₁ hsb₁ ⊢;generalize hH3:s2.heap.push { cls := .type "list",data := .seq ([]:List Value).toArray }=h3 at *;generalize hDe:s2.heap.objs.size=Da at *;have aA3:∀ b o,h3.get? b=some o->h₁.get? b=some o:=fun b o e=>hsb₁.extBut b o (dw (bh e)) (ao _ e)
  show codeAny (model X.prog X.w) X.A (Code.compStart (elt.ListComp [{ target:=tgt,iter:=iter,ifs:=ifs,is_async:=0 }] scope pos) 0 (Value.ref it) (Value.ref Da) (compEnvC scope (tE X.env.cells scope.names []) h3.objs.size X.env))
    (RR (.ref Da) h3.objs.size) { s2 with heap:=h₁,toks:=s2.toks+([]:List (Str×Value)).length }
  have J0:=aD9 (tk:=s2.toks+([]:List (Str×Value)).length) I3 c rfl hf3 hns₁ aA3;have st1:tn 0 h₁:=T.keep _ _ _ st2 fun b hb o e=>aA3 b o (by rw [← hH3];exact ao _ e);have g0:HR X.K (upd H2 Da (.lst [])) (aL G1 Da (.lst [])):=g1.put (u := .lst []) hD ⟨[],aJ,.nil⟩;have ts0:Ts H2 (upd H2 Da (.lst [])) := .same (bU hD)
  have loop:∀ s₄:Shared,Inv (vZ X xs scope h3.objs.size { s2 with heap:=h3,toks:=s2.toks } (upd H2 Da (.lst [])) fp pins) [] (nn xs σ) (upd H2 Da (.lst [])) s₄->tn 0 s₄.heap ->
      codeAny (model X.prog X.w) X.A (.compLoop (.ListComp elt [⟨tgt,iter,ifs,0⟩] scope pos) 0 (.ref it) (.ref Da) (compEnvC scope (tE X.env.cells scope.names []) h3.objs.size X.env)) (RR (.ref Da) h3.objs.size) s₄:=by
    intro s₄ J4 st4
    refine ar3 (fun n s'=>∃ i ds H' G',Inv (vZ X xs scope h3.objs.size { s2 with heap:=h3,toks:=s2.toks } (upd H2 Da (.lst [])) fp pins) [] (nn xs σ) H' s'/\tn i s'.heap/\(∀ b∈fp,H' b=none)/\HR X.K H' G'/\P i ds G'/\i<=src.items.length/\n=src.items.length - i/\Ts H2 H') (fun n s' hI=>?_) src.items.length
      ⟨0,[],_,_,J4,st4,fun b hb=>(hf3 b hb).1.1,g0,p0,lu _,by simp,ts0⟩
    obtain ⟨i,ds,H',G',J,st,fr,g',p,hi',rfl,ts⟩:=hI;obtain ⟨ok,hDl,hdl⟩:=pok i ds G' hi' p;obtain ⟨sgo,aNE,aJ4⟩:=sj H' G' ts g' ok
    have fpX:∀ {H':Hp},(∀ b∈fp,H' b=none)->∀ b∈fp,a6S (vZ X xs scope h3.objs.size { s2 with heap:=h3,toks:=s2.toks } (upd H2 Da (.lst [])) fp pins) [] H' b:=fun hn b hb=>by
      obtain ⟨⟨f0,f1,f2',f3,f4,f5⟩,lt⟩:=hf3 b hb;refine ⟨hn b hb,dw lt,fun hs=>?_,.inl hb,fun y d e=>f4 y d (nG e fun _ h=>by simp at h),fun p' hp'=>f5 p' (by simpa using hp')⟩;rcases aeZ I3 hs with z | z
      . exact f1 z
      . exact f2' z
    by_cases hlt:i < src.items.length
    . refine wpAny_mono (T.item (vZ X xs scope h3.objs.size { s2 with heap:=h3,toks:=s2.toks } (upd H2 Da (.lst [])) fp pins) rfl rfl rfl (fun h=>h) (fun _ h=>h) i [] s' (nn xs σ) H' (fun _ _=>False) J (fpX fr) st (sgo i hlt)) (fun r s5 ⟨u,hr,h5⟩=>?_) fun _ _ z=>z.elim;subst hr
      obtain ⟨d0,ys,hd0,ey,aNG⟩:∃ d ys,src.items[i]?=some d/\dv d=some ys/\tc (ys.map some++ρ) G' fun b G2=>if b=true then te (ys.map some++ρ) G2 fun y G3=>G3 Da=some (.lst ds)/\P (i+1) (ds++[y]) (aL G3 Da (.lst (ds++[y]))) else P (i+1) ds G2:=by
        have hd:src.items[i]?=some src.items[i]:=dg hlt;obtain ⟨ys,e,z⟩:=pst i _ ds G' hd p;exact ⟨_,ys,hd,e,z⟩
      show wpAny _ _ (letOwnedTupleGo tgt (.ref it) u) _ _ s5;refine wpAny_mono h5 (fun _ s6 ⟨vx,H6,I6,r6,y6,st6,fr6⟩=>?_) fun _ _ z=>z.elim;obtain ⟨sm,d,hd,rd⟩:=aNE i vx H6 hlt y6;have g':=g'.same sm;have ts:=ts.trans (.same sm);obtain rfl:d0=d:=gk.inj (hd0.symm.trans hd);have I6':=I6.pinned (fpX fr6) (T.obj _ _ st6);refine wpAny_mono (hT _ _ _ _ _ _ _ s6 H6 vx u _ _ I6' r6 rd ey) (fun _ s7 ⟨vs,rvs,I7⟩=>?_) fun _ _ z=>z.elim;have lv:vs.length=xs.length:=by rw [← rvs.length];exact hdv _ _ ey
      have ar4:∀ {s'':Shared} {σ'':St} {H'':Hp},Inv (vZ X xs scope h3.objs.size { s2 with heap:=h3,toks:=s2.toks } (upd H2 Da (.lst [])) fp pins) ([]++a6U fp s6.heap) σ'' H'' s''->tn (i+1) s''.heap/\∀ b∈fp,H'' b=none:=fun I''=>by
        refine ⟨T.keep _ _ _ st6 fun b hb o e=>(I''.pin (b,o) (jq _ (jq _ (yJ hb e)))).1,fun b hb=>?_⟩;obtain ⟨o,e,_⟩:=T.obj _ _ st6 b hb;exact (I''.pin (b,o) (jq _ (jq _ (yJ hb e)))).2.1
      have down:∀ {s'':Shared} {H'':Hp},Inv (vZ X xs scope h3.objs.size { s2 with heap:=h3,toks:=s2.toks } (upd H2 Da (.lst [])) fp pins) ([]++a6U fp s6.heap) (vs.map some++σ) H'' s''->Inv (vZ X xs scope h3.objs.size { s2 with heap:=h3,toks:=s2.toks } (upd H2 Da (.lst [])) fp pins) [] (nn xs σ) H'' s'':=fun I'' =>
        I''.a5C.weak (by simp [nn,lv]) fun j v e=>by
          obtain ⟨j',rfl,e'⟩:=aqY e;rw [← lv,show vs.length=(vs.map some).length by simp,alY];exact e'
      have sr7:SR X.K H6 (ys.map some++ρ) (vs.map some++σ):=ar0 (sr.mono (t1.trans ts)) rvs
      refine wpAny_mono (hc _ _ _ _ _ _ s7 (vs.map some++σ) H6 (fun b H8=>Ts H6 H8/\∃ G8,HR X.K H8 G8/\(if b=true then te (ys.map some++ρ) G8 fun y G3=>G3 Da=some (.lst ds)/\P (i+1) (ds++[y]) (aL G3 Da (.lst (ds++[y]))) else P (i+1) ds G8)) I7
        ⟨ys.map some++ρ,G',_,sr7,g',aNG,fun b H8 G8 t8 g8 q8=>⟨t8,G8,g8,q8⟩⟩) (fun b s8 ⟨H8,I8,t8,G8,g8,q8⟩=>?_) fun _ _ z=>z.elim
      cases b with
      | false =>
        rw [if_neg (by decide)];have q8':P (i+1) ds G8:=by simpa using q8
        obtain ⟨a1,a2⟩:=ar4 I8;exact ⟨src.items.length - (i+1),by omega,i+1,ds,H8,G8,down I8,a1,a2,g8,q8',hlt,rfl,ts.trans t8⟩
      | true =>
        rw [if_pos rfl];have q8':te (ys.map some++ρ) G8 fun y G3=>G3 Da=some (.lst ds)/\P (i+1) (ds++[y]) (aL G3 Da (.lst (ds++[y]))):=by simpa using q8
        refine wpAny_mono (he _ _ _ _ _ _ s8 (vs.map some++σ) H8 (fun vy H9=>Ts H8 H9/\∃ y G9,RD X.K H9 y vy/\HR X.K H9 G9/\G9 Da=some (.lst ds)/\P (i+1) (ds++[y]) (aL G9 Da (.lst (ds++[y])))) I8 ⟨ys.map some++ρ,G8,_,sr7.mono t8,g8,q8',fun vy H9 y G9 t9 r9 g9 q9=>⟨t9,y,G9,r9,g9,q9⟩⟩) (fun uy s9 ⟨vy,H9,I9,ry,t9,y,G9,ryd,g9,hG9,q9⟩=>?_) fun _ _ z=>z.elim;obtain ⟨ws,hH9,rws⟩:=g9 Da _ hG9;have aJ6:ws.length < sizeLine:=by rw [← rws.length];omega
        refine wpAny_mono (adD (X:=vZ X xs scope h3.objs.size { s2 with heap:=h3,toks:=s2.toks } (upd H2 Da (.lst [])) fp pins) _ s9 (vs.map some++σ) H9 (.ref Da) [vy] (.ref Da) [uy] (fun _ H10=>H10=upd H9 Da (.lst (ws++[vy]))) I9 rfl (.cons ry .nil) ⟨Da,ws,vy,rfl,rfl,hH9,aJ6,rfl⟩) (fun _ s10 ⟨_,H10,I10,_,e10⟩=>?_) fun _ _ z=>z.elim;subst e10;obtain ⟨a1,a2⟩:=ar4 I10;have tt:Ts H9 (upd H9 Da (.lst (ws++[vy]))) := .turn hH9 (fun _ z=>nomatch z) (fun _ _ z=>nomatch z);exact ⟨src.items.length - (i+1),by omega,i+1,ds++[y],_,_,down I10,a1,a2,g9.turn (u := .lst (ds++[y])) tt ⟨_,aJ,(rws.append (.cons ryd .nil)).mono tt⟩,q9,hlt,rfl,((ts.trans t8).trans t9).trans tt⟩
    . have ein:i=src.items.length:=by omega
      subst ein;refine wpAny_mono (T.done (vZ X xs scope h3.objs.size { s2 with heap:=h3,toks:=s2.toks } (upd H2 Da (.lst [])) fp pins) rfl rfl rfl (fun h=>h) (fun _ h=>h) _ [] s' (nn xs σ) H' (fun _ _=>False) J (fpX fr) st aJ4) (fun r s5 ⟨hr,J5⟩=>?_) fun _ _ z=>z.elim;subst hr;obtain ⟨m5,hn5,_⟩:=id J5.loc;obtain ⟨G0,l0,q0⟩:=pend ds G' p;have I5:Inv X pins σ H' s5:=awT (tk:=s5.toks) I3 rfl hf3 J5 (iz.refl _ _);refine hRR Da _ s5 H' G0 I5 ⟨⟨m5,hn5⟩,J5.free,wu I3.lt,I3.sz,fun y d e z=>?_,fun p hp z=>?_⟩ (t1.trans ts) (g'.le l0) q0
      . obtain ⟨w,o,ho,_⟩:=I3.cell y d e;rw [z] at ho;exact absurd (bh ho) (kh _)
      . have:=(I3.pin p hp).1;rw [z] at this;exact absurd (bh this) (kh _)
  exact codeAny_compStart_list (loop _ J0 st1) (T.self X.A 0 _ _ _ st1 (loop _ J0 st1))
noncomputable def af2 (dv:D->Option (List D)) (ti:TI3) (tc:TT3) (te:cL):cL:=fun ρ G R=>ti ρ G fun src G1=>src.items.length < sizeLine/\∀ p,G1 p=none->∃ P:Nat->List D->Gp->Prop,P 0 [] (aL G1 p (.lst [])) /\
  (∀ k ds G,k<=src.items.length->P k ds G->src.ok G/\G p=some (.lst ds)/\ds.length<=k) /\
  (∀ k d ds G,src.items[k]?=some d->P k ds G->∃ ys,dv d=some ys/\tc (ys.map some++ρ) G fun b G2=>if b=true then te (ys.map some++ρ) G2 fun y G3=>G3 p=some (.lst ds)/\P (k+1) (ds++[y]) (aL G3 p (.lst (ds++[y]))) else P (k+1) ds G2) /\
  ∀ ds G,P src.items.length ds G->∃ G0,Le G0 G/\R (.ref p) G0
noncomputable def akC (d:D):Option (List D):=some [d]
noncomputable abbrev aaC (ti:TI3) (tc:TT3) (te:cL):cL:=af2 akC ti tc te
theorem ar5 (d:D) (ds:List D) (h:akC d=some ds):ds.length=[x].length:=by
  unfold akC at h;cases h;rfl
theorem ar6 {N:List Str} (c:a3T X xs scope) (hnd:X.N.Nodup):(xs++X.N).Nodup:=qy.mpr ⟨c.nd,hnd,fun a ha b hb e=>c.out a ha (e ▸ hb)⟩
theorem aDC (c:a3T X [x] scope) (hnd:X.N.Nodup) {σ:St}:aDB (vZ X [x] scope C s H fp pins) (.Name x px) [x] akC σ:=by
  intro a5B s' H' v u d ds I r rd e;unfold akC at e;cases e;have pgn:PG (vZ X [x] scope C s H fp pins) (.Name x px) (alN 0):=aeI (ar6 (N:=X.N) c hnd) rfl (.inl (lookup_relabel_local (c.var x (by simp)))) (.inr (lookup_relabel_local (c.var x (by simp))));refine wpAny_mono (pgn a5B s' (nn [x] σ) H' v u (fun σ' H2=>σ'=[v].map some++σ/\H2=H') I r ⟨rfl,rfl⟩) (fun _ s2 ⟨σ2,H2,I2,e2,e3⟩=>?_) fun _ _ z=>z;subst e2;subst e3;exact ⟨[v],.cons rd .nil,I2⟩
theorem awW (c:a3T X xs scope) (hT:∀ C s H fp pins σ,aDB (vZ X xs scope C s H fp pins) tgt xs dv σ) (hdv:∀ d ds,dv d=some ds->ds.length=xs.length) (hi:PI3 X tgt iter ti) (hc:∀ C s H fp pins,aqZ (vZ X xs scope C s H fp pins) ifs tc) (he:∀ C s H fp pins,cR (vZ X xs scope C s H fp pins) elt te)
    (hs:∀ y,foldedSetIterable iter X.env y=pure y):cR X (.ListComp elt [⟨tgt,iter,ifs,0⟩] scope pos) (af2 dv ti tc te):=by
  intro pins s σ H Q I h;obtain ⟨ρ,G,R,sr,g,q,kk⟩:=h;rw [eval_ListComp];refine wpAny_comprehension_free (use:=none) rfl hs (a73 fun y hy hf=>I.ok.has y.1 (c.frees y hy hf)) c.kind c.locs ?_
  refine f9 (hi pins s σ H (fun J H1=>Ts H H1/\∃ src G1,HR X.K H1 G1/\aa9 X.K H1 src J/\(src.items.length < sizeLine/\∀ p,G1 p=none->∃ P:Nat->List D->Gp->Prop,P 0 [] (aL G1 p (.lst [])) /\
      (∀ k ds G,k<=src.items.length->P k ds G->src.ok G/\G p=some (.lst ds)/\ds.length<=k) /\
      (∀ k d ds G,src.items[k]?=some d->P k ds G->∃ ys,dv d=some ys/\tc (ys.map some++ρ) G fun b G2=>if b=true then te (ys.map some++ρ) G2 fun y G3=>G3 p=some (.lst ds)/\P (k+1) (ds++[y]) (aL G3 p (.lst (ds++[y]))) else P (k+1) ds G2) /\
      ∀ ds G,P src.items.length ds G->∃ G0,Le G0 G/\R (.ref p) G0)) I ⟨ρ,G,_,sr,g,q,fun src J H' G' t1 g1 sj q1=>⟨t1,src,G',g1,sj,q1⟩⟩) fun v s1 h1=>f9 h1 fun itv s2 hz=>?_
  obtain ⟨it,fp,tn,J,H2,e,I2,T,st2,f2,t1,src,G1,g1,sj,hlen,body⟩:=hz;subst e
  exact aoE (RR:=fun acc C=>compPost (model X.prog X.w) X.A X.xe none (EP X pins σ Q) acc C) c hT hdv hc he sr I2 T st2 f2 t1 g1 sj hlen body fun Da C s5 H' G0 I5 o ts g0 q0=>by
    obtain ⟨m,hn⟩:=o.ns;exact ⟨m,hn,fun h' hs'=>⟨.ref Da,H',o.turn I5 hs',rfl,kk _ H' _ G0 ts (.ref Da) g0 q0⟩⟩
end
end
variable {xs:List V}{es:List Expr}{is:List Nat}{G:Gp}{ds:List D}{tgt:Expr}{body:List Stmt}{ti:TI3}{tb:bJ}
section
noncomputable abbrev TG3:=D->aO->(aO->Prop)->Prop
noncomputable def upG (K:Fg) (t:TG3):TG:=fun v σ H Q=>∃ ρ d R,SR K H ρ σ/\RD K H d v/\t d ρ R/\∀ ρ' σ',SR K H ρ' σ'->R ρ'->Q σ' H
noncomputable abbrev PG3 (X:Cx) (tg:Expr) (t:TG3):Prop:=PG X tg (upG X.K t)
noncomputable def a3U (i:Nat):TG3:=fun d ρ Q=>Q (a5I ρ i d)
noncomputable def a8B:aO->List Nat->List D->aO
  | ρ,i :: is,d :: ds=>a8B (a5I ρ i d) is ds
  | ρ,_,_=>ρ
noncomputable def aaD (is:List Nat):TG3:=fun d ρ Q=>match d with
  | .tup ds=>ds.length=is.length/\Q (a8B ρ is ds)
  | _=>False
noncomputable def ar7:St->List Nat->List V->St
  | σ,i :: is,v :: vs=>ar7 (σ.set i (some v)) is vs
  | σ,_,_=>σ
theorem SR.sets {K:Fg} {H:Hp}:∀ {is:List Nat} {ds:List D} {vs:List V} {ρ:aO} {σ:St},cN K H ds vs->SR K H ρ σ->SR K H (a8B ρ is ds) (ar7 σ is vs)
  | [],_,_,_,_,_,s=>s
  | _ :: _,_,_,_,_,.nil,s=>s
  | i :: is,_,_,_,_,.cons h r,s=>SR.sets (is:=is) r (s.set h i)
section
variable {X:Cx}
theorem PG.imp {t t':TG} (h:PG X e t) (k:∀ v σ H Q,t' v σ H Q->t v σ H Q):PG X e t':=fun pins s σ H v u Q I r q=>h pins s σ H v u Q I r (k _ _ _ _ q)
theorem aDD {x:Str} (hN:X.N.Nodup) (hi:X.N[i]?=some x) (hx:Loc X.env.scope x) (hf:X.fn x=true∨X.env.scope.names.lookup x=some .local):PG3 X (.Name x pos) (a3U i) :=
  PG.imp (aeI hN hi hx hf) fun v σ H Q h=>by
  obtain ⟨ρ,d,R,s,r,q,k⟩:=h;exact k _ _ (s.set r i) q
structure aDE (X:Cx) (e:Expr) (i:Nat):Prop where
  ex:∃ x pos,e = .Name x pos/\X.N[i]?=some x/\Loc X.env.scope x/\(X.fn x=true∨X.env.scope.names.lookup x=some .local)
noncomputable def aDF:List Nat->TGs
  | []=>aH9
  | i :: is=>azT (alN i) (aDF is)
theorem alZ:∀ {is:List Nat} {vs:List V} {σ:St} {H:Hp} {Q:St->Hp->Prop},vs.length=is.length->Q (ar7 σ is vs) H->aDF is vs σ H Q
  | [],[],_,_,_,_,q=>⟨rfl,q⟩
  | [],_ :: _,_,_,_,h,_=>by simp at h
  | _ :: _,[],_,_,_,h,_=>by simp at h
  | i :: is,v :: vs,σ,H,Q,h,q=>⟨v,vs,rfl,alZ (is:=is) (by simpa using h) q⟩
theorem adT (hN:X.N.Nodup):∀ {es:List Expr} {is:List Nat},Two (aDE X) es is->PGs X es (aDF is)/\(assignEach es X.env).length=is.length/\(assignEach es X.env).findIdx? (·.1)=none
  | _,_,.nil=>⟨avN,rfl,rfl⟩
  | _,_,.cons (a:=e) (b:=i) h r=>by
    obtain ⟨x,pos,rfl,h1,h2,h3⟩:=h.ex;obtain ⟨a1,a2,a3⟩:=adT hN r;refine ⟨apV (aeI hN h1 h2 h3) a1 rfl,?_,?_⟩
    . show (assignEach _ X.env).length+1=_;rw [a2];rfl
    . show ((false,assign (.Name x pos) X.env) :: assignEach _ X.env).findIdx? (·.1)=none;rw [List.findIdx?_cons];simp [a3]
theorem aA4 {k:Nat} (hN:X.N.Nodup) (hc:X.calm=true) (h:Two (aDE X) es is):PG3 X (.Tuple es k pos) (aaD is):=by
  obtain ⟨a1,a2,a3⟩:=adT hN h;refine PG.imp (aBI hc a1 a2 a3) fun v σ H Q h=>?_;obtain ⟨ρ,d,R,s,r,q,k⟩:=h;cases r with
  | @tup a vs ds hq rv =>
    have q':ds.length=is.length/\R (a8B ρ is ds):=q;exact ⟨a,vs,rfl,hq,by rw [← rv.length];exact q'.1,alZ (by rw [← rv.length];exact q'.1) (k _ _ (SR.sets rv s) q'.2)⟩
  | _=>exact False.elim q
noncomputable def a8X (K:Fg) (src:Src) (J:It):Prop:=∀ H2 G2,HR K H2 G2->src.ok G2 ->
  (∀ i,i < src.items.length->J.go i H2)/\(∀ i v H',i < src.items.length->J.yld i H2 v H'->Same H2 H'/\∃ d,src.items[i]?=some d/\RD K H' d v)/\J.stop src.items.length H2
noncomputable def aNJ (K:Fg) (t:TI3):TI:=fun σ H Q=>∃ ρ G R,SR K H ρ σ/\HR K H G/\t ρ G R/\∀ src J H' G',Ts H H'->HR K H' G'->a8X K src J->R src G'->Q J H'
noncomputable abbrev PIS (X:Cx) (tg iter:Expr) (t:TI3):Prop:=PI X tg iter (aNJ X.K t)
noncomputable def awX (te:cL):TI3:=fun ρ G R=>te ρ G fun x G1=>match x with
  | .ref p=>(match bY G1 p with
    | some xs=>R (.lst p xs) G1
    | none=>False)
  | .str z=>R (.imm (signs z)) G1
  | .tup xs=>xs.all scD=true/\∀ a,(G1 a=none∨G1 a=some (.tpl xs))->R (.tpl a xs) (aL G1 a (.tpl xs))
  | _=>False
theorem aJ7 {K:Fg} {d d':D} {v:V} (h:scD d=true) (r:RD K H d v) (r':RD K H d' v):d'=d:=by
  cases r with
  | non=>cases r';rfl
  | bl b=>cases r';rfl
  | int i=>cases r';rfl
  | str x=>cases r';rfl
  | _=>exact Bool.noConfusion (show false=true from h)
theorem ar8 {K:Fg} {H:Hp}:∀ {ds ds':List D} {vs:List V},ds.all scD=true->cN K H ds vs->cN K H ds' vs->ds'=ds
  | _,_,_,_,.nil,.nil=>rfl
  | d :: ds,d' :: ds',_,h,.cons r rr,.cons r' rr'=>by
    rw [qm,ak] at h;rw [aJ7 h.1 r r',ar8 h.2 rr rr']
theorem ar9 {σ:St} {o:GO} (I:Inv X pins σ H s) (g:HR X.K H G) (hq:SqT X.K H a xs) (e:G a=some o):∃ ds,o = .tpl ds/\cN X.K H ds xs:=by
  have no:∀ u,H a=some u->(∀ ys,u ≠ .tup ys)->(∀ ob ys,u ≠ .lW ob (.tup ys))->False:=fun u hu h1 h2=>by
    rcases hq with (q | ⟨ob,q⟩) | ⟨ob,_,_,q,_⟩
    . rw [hu] at q;exact h1 _ (gk.inj q)
    . rw [hu] at q;exact h2 _ _ (gk.inj q)
    . have:=wN I a ob q;rw [hu] at this;cases this
  have z:=g a o e;cases o with
  | lst ds=>obtain ⟨_,q,_⟩:=z;exact (no _ q (fun _ w=>nomatch w) (fun _ _ w=>nomatch w)).elim
  | rol ds =>
    obtain ⟨_,q,_⟩:=z;obtain ⟨_,_,⟨o1,n1,e1,c1,_⟩,_⟩:=I.list q;obtain ⟨_,_,⟨o2,e2,c2,_⟩,_⟩:=I.tuple hq;rw [e1] at e2;cases e2;rw [c1] at c2;exact absurd c2 (by decide)
  | bQ t kvs=>rcases z with ⟨_,_,q,_⟩ | ⟨_,_,q,_⟩ <;> exact (no _ q (fun _ w=>nomatch w) (fun _ _ w=>nomatch w)).elim
  | ins C fs=>obtain ⟨_,_,q,_⟩:=z;exact (no _ q (fun _ w=>nomatch w) (fun _ _ w=>nomatch w)).elim
  | exn C=>obtain ⟨_,_,q,_⟩:=z;exact (no _ q (fun _ w=>nomatch w) (fun _ _ w=>nomatch w)).elim
  | rdc ob t kvs=>rcases z with ⟨_,_,q,_⟩ | ⟨_,_,q,_⟩ <;> exact (no _ q (fun _ w=>nomatch w) (fun _ _ w=>nomatch w)).elim
  | tpl ds=>obtain ⟨ys,q,r⟩:=z;exact ⟨ds,rfl,by rw [← I.a6R q hq];exact r⟩
theorem awY {σ:St} (I:Inv X pins σ H s) (g:HR X.K H G) (hq:SqT X.K H a xs) (rv:cN X.K H ds xs) (sc:ds.all scD=true) :
    (G a=none∨G a=some (.tpl ds))/\HR X.K H (aL G a (.tpl ds)):=by
  refine ⟨?_,fun b o e=>?_⟩
  . cases e:G a with
    | none=>exact .inl rfl
    | some o=>obtain ⟨ds',rfl,r⟩:=ar9 I g hq e;exact .inr (by rw [ar8 sc rv r])
  . by_cases hb:b=a
    . subst hb;rw [aH] at e;cases e;exact ⟨xs,hq,rv⟩
    . rw [bD hb] at e;exact g b o e
variable {xs:List D}
theorem arA {K:Fg}:a8X K (.tpl p xs) (Itt K p):=fun H2 G2 g ok=>by
  obtain ⟨vs,hq,rv⟩:=g p _ ok;exact ah5 hq rv H2 G2 (.refl _) g trivial
theorem aoF {K:Fg}:a8X K (.lst p xs) (Itl K p):=fun H2 G2 g ok=>adS (H1:=H2) H2 G2 (.refl _) g ok
theorem ah7 {K:Fg}:a8X K (.imm (signs z)) (Its z):=fun H2 G2 g ok=>aaA (H1:=H2) H2 G2 (.refl _) g ok
theorem arB {K:Fg}:a8X K (.imm ((ji n).map fun (i:Nat) => .int (lo+(i:Int)))) (Itr lo n):=fun H2 G2 g ok=>ah6 (H1:=H2) H2 G2 (.refl _) g ok
theorem aDG {l:Expr} (hl:cR X l te):PIS X tg l (awX te):=by
  intro pins s σ H R I h;obtain ⟨ρ,G,R3,sr,g,q,k⟩:=h
  refine f9 (hl pins s σ H (fun v H1=>Ts H H1/\∃ x G1,RD X.K H1 x v/\HR X.K H1 G1/\(match x with
    | .ref p=>(match bY G1 p with
      | some xs=>R3 (.lst p xs) G1
      | none=>False)
    | .str z=>R3 (.imm (signs z)) G1
    | .tup xs=>xs.all scD=true/\∀ a,(G1 a=none∨G1 a=some (.tpl xs))->R3 (.tpl a xs) (aL G1 a (.tpl xs))
    | _=>False)) I ⟨ρ,G,_,sr,g,q,fun v H1 x G1 t1 r g1 q1=>⟨t1,x,G1,r,g1,q1⟩⟩) fun v s1 ⟨x,H1,I1,r1,t1,d,G1,rd,g1,q1⟩=>?_
  cases rd with
  | ref a =>
    have q1':(match bY G1 a with
      | some xs=>R3 (.lst a xs) G1
      | none=>False):=q1
    split at q1'
    . rename_i xs e;cases r1;obtain ⟨vs,hq,rv⟩:=d8 g1 e;obtain ⟨its,rv',p,hz⟩:=I1.list hq;refine wpAny_pyIter_list p.isList ?_;refine ⟨s1.heap.objs.size,[s1.heap.objs.size],_,_,H1,rfl,I1.kept (t':=s1.toks) fun b o e=>ao _ e,ad6 a _,⟨_,cg _ rfl,rfl,rfl⟩,fun b hb=>?_,k _ _ H1 G1 t1 g1 aoF q1'⟩;have e:b=s1.heap.objs.size:=by simpa using hb
      subst e;exact I1.a6T (au _) (I1.hok.fresh (au _))
    . exact q1'.elim
  | str z =>
    obtain ⟨t,rfl⟩:=r1;cases ha:z.cps.all (· < 128)
    . refine wpAny_pyIter_wide ha ?_;refine ⟨s1.heap.objs.size,[s1.heap.objs.size],_,_,H1,rfl,I1.kept (t':=s1.toks) fun b o e=>ao _ e,adR _ z t,?_,fun b hb=>?_,k _ _ H1 G1 t1 g1 ah7 q1⟩
      . rw [Nat.zero_min];exact ⟨_,cg _ rfl,rfl,rfl⟩
      . have e:b=s1.heap.objs.size:=by simpa using hb
        subst e;exact I1.a6T (au _) (I1.hok.fresh (au _))
    . refine wpAny_pyIter_ascii ha ?_;refine ⟨s1.heap.objs.size,[s1.heap.objs.size],_,_,H1,rfl,I1.kept (t':=s1.toks) fun b o e=>ao _ e,adQ _ z t,?_,fun b hb=>?_,k _ _ H1 G1 t1 g1 ah7 q1⟩
      . rw [Nat.zero_min];exact ⟨_,cg _ rfl,rfl,rfl⟩
      . have e:b=s1.heap.objs.size:=by simpa using hb
        subst e;exact I1.a6T (au _) (I1.hok.fresh (au _))
  | @tup a vs xs hq rv =>
    cases r1;obtain ⟨its,rv',p,hz⟩:=I1.tuple hq;obtain ⟨sc,q1⟩:=q1;obtain ⟨hG,g2⟩:=awY I1 g1 hq rv sc;refine wpAny_pyIter_tuple (show s1.heap.IsTuple a its.toArray from p) ?_;refine ⟨s1.heap.objs.size,[s1.heap.objs.size],_,_,H1,rfl,I1.kept (t':=s1.toks) fun b o e=>ao _ e,a9V a _,⟨_,cg _ rfl,rfl,rfl⟩,fun b hb=>?_,k _ _ H1 _ t1 g2 arA (q1 a hG)⟩;have e:b=s1.heap.objs.size:=by simpa using hb
    subst e;exact I1.a6T (au _) (I1.hok.fresh (au _))
  | _=>exact q1.elim
theorem awZ {a:Expr} {p:Pos} (hg:Gl X "range") (hm:X.mg "range" = none) (ha:PA3 X [a] ta) (hs:starEach [a] X.env=[(false,eval a X.env)]):PIS X tg (.Call (.Name "range" p) [a] [] pos) (a72 ta) :=
  PI.imp (ad7 hg hm ha hs) fun σ H Q h=>by
  obtain ⟨ρ,G,R,s,g,q,k⟩:=h;refine ⟨ρ,G,_,s,g,q,fun vs H1 ds G1 t1 r g1 h1=>?_⟩;cases r with
  | nil=>exact h1.elim
  | cons r rr =>
    cases rr with
    | cons _ _=>cases r <;> exact False.elim h1
    | nil =>
      cases r with
      | int j =>
        obtain ⟨l1,l2,h1⟩:=h1;refine ⟨j,rfl,l1,l2,k _ _ H1 G1 t1 g1 ?_ h1⟩;unfold acK;rw [show (j - 0).toNat=j.toNat by omega];exact arB
      | _=>exact False.elim h1
noncomputable def aaE (ti:TI3) (tg:TG3) (tb:bJ):bJ:=fun F ρ G=>ti ρ G fun src G1=>∃ P:Nat->aO->Gp->Prop,P 0 ρ G1/\(∀ k ρ G,k<=src.items.length->P k ρ G->src.ok G) /\
  (∀ k d ρ G,src.items[k]?=some d->P k ρ G->tg d ρ fun ρ2=>tb { F with nx:=P (k+1),ct:=P (k+1),bk:=F.nx } ρ2 G)/\∀ ρ G,P src.items.length ρ G->F.nx ρ G
theorem aDH {tg:TG3} (hp:PassesOwn (model X.prog X.w) X.A X.env X.xe) (hi:PIS X tgt iter ti) (hg:PG3 X tgt tg) (hb:a6Y X body tb)
    (hs:∀ x,foldedSetIterable iter X.env x=pure x):PS3 X (.For tgt iter body [] pos) (aaE ti tg tb):=PS.imp (apY hp hi hg hb hs) fun F σ H h=>by
  obtain ⟨ρ,G,E,s,g,q,d⟩:=h
  refine ⟨ρ,G,fun src G1=>∃ P:Nat->aO->Gp->Prop,P 0 ρ G1/\(∀ k ρ G,k<=src.items.length->P k ρ G->src.ok G) /\
    (∀ k d ρ G,src.items[k]?=some d->P k ρ G->tg d ρ fun ρ2=>tb { E with nx:=P (k+1),ct:=P (k+1),bk:=E.nx } ρ2 G)/\∀ ρ G,P src.items.length ρ G->E.nx ρ G,s,g,q,fun src J H1 G1 t1 g1 sj ⟨P,p0,pok,pst,pend⟩=>?_⟩
  refine agT (K:=X.K) (n:=src.items.length) (fun k σ2 H2=>∃ ρ' G',SR X.K H2 ρ' σ2/\HR X.K H2 G'/\P k ρ' G') ⟨ρ,G1,s.mono t1,g1,p0⟩ (fun σ2 H2 ⟨ρ',G',s2,g2,p⟩=>?_) (fun k σ2 H2 hk ⟨ρ',G',s2,g2,p⟩=>?_) (fun k y σ2 H2 H3 hk ⟨ρ',G',s2,g2,p⟩ hy=>?_)
    (fun σ2 H2 ⟨ρ',G',s2,g2,p⟩=>d.nx ρ' G' σ2 H2 s2 g2 (pend ρ' G' p))
  . exact (sj H2 G' g2 (pok _ ρ' G' (au _) p)).2.2
  . exact (sj H2 G' g2 (pok _ ρ' G' (qb hk) p)).1 k hk
  . obtain ⟨sm,dk,e1,e2⟩:=(sj H2 G' g2 (pok _ ρ' G' (qb hk) p)).2.1 k y H3 hk hy;refine ⟨ρ',dk,_,s2.mono (.same sm),e2,pst k dk ρ' G' e1 p,fun ρ2 σ3 s3 q3=>?_⟩;exact ⟨ρ2,G',_,s3,g2.same sm,q3,⟨fun ρ4 G4 σ4 H4 s4 g4 q4=>⟨ρ4,G4,s4,g4,q4⟩,d.rt,d.nx,fun ρ4 G4 σ4 H4 s4 g4 q4=>⟨ρ4,G4,s4,g4,q4⟩⟩⟩
end
end
variable {us:List Value}
section
noncomputable def aoG:D->Bool
  | .bl _=>true
  | _=>false
noncomputable def aoH:D->Bool
  | .bl b=>b
  | _=>false
noncomputable def aP4:List D->Gp->j4->Prop:=fun xs G R=>match xs with
  | [.ref q]=>(match bY G q with
    | some ds=>ds.all aoG=true/\R (.bl (ds.all aoH)) G
    | none=>False)
  | _=>False
noncomputable def trN (ds:List D) (i:Nat):Bool:=match ds[i]? with
  | some d=>aoH d
  | none=>false
variable {vs:List V}
section
variable {X:Cx}
theorem aoI {K:Fg} (r:cN K H ds vs) (v:Vals vs us) (hb:ds.all aoG=true) {u:Value} (e:us[i]?=some u):u = .bool (trN ds i):=by
  obtain ⟨d,x,h1,h2,h3⟩:=Vals.aqQ r v e;have hd:aoG d=true:=iu.mp hb d (je h1);unfold trN;rw [h1];cases h2 with
  | bl b=>exact h3
  | _=>cases hd
noncomputable def on2 (xs:List D) (f:Int->Int->Prop):Prop:=match xs with
  | [.int i,.int j]=>f i j
  | _=>False
noncomputable def aA5:List D->Gp->j4->Prop:=fun xs G R=>on2 xs fun i j=>R (.int (if j < i then j else i)) G
noncomputable def aA6:List D->Gp->j4->Prop:=fun xs G R=>on2 xs fun i j=>R (.int (if i < j then j else i)) G
theorem ah8 {K:Fg} {xs:List D} (r:cN K H xs vs) {f:Int->Int->Prop} (h:on2 xs f):∃ i j,xs=[.int i,.int j]/\vs=[.int i,.int j]/\f i j:=by
  unfold on2 at h;split at h
  . rename_i i j;cases r with
    | cons r1 r =>
    cases r with
    | cons r2 r =>
    cases r;cases r1;cases r2;exact ⟨i,j,rfl,rfl,h⟩
  . exact h.elim
theorem aJ8 (hc:X.calm=true):cU X (.builtin "min") aA5:=cU.of (anS hc) fun H xs vs G R Q rx g q k=>by
  obtain ⟨i,j,rfl,rfl,q'⟩:=ah8 (f:=fun i j=>R (.int (if j < i then j else i)) G) rx q;exact ⟨i,j,rfl,fun _=>k _ H _ G (.refl H) (.int _) g q'⟩
theorem aJ9 (hc:X.calm=true):cU X (.builtin "max") aA6:=cU.of (anR hc) fun H xs vs G R Q rx g q k=>by
  obtain ⟨i,j,rfl,rfl,q'⟩:=ah8 (f:=fun i j=>R (.int (if i < j then j else i)) G) rx q;exact ⟨i,j,rfl,fun _=>k _ H _ G (.refl H) (.int _) g q'⟩
end
end
variable {zs:List (Int×Tok)}{ns:List Int}
section
section
variable {X:Cx} {pos:Pos}
noncomputable def aaF (is:List Nat) (te:cL):bJ:=fun F ρ G=>te ρ G fun d G1=>aaD is d ρ fun ρ2=>F.nx ρ2 G1
theorem aDJ {k:Nat} {tp:Pos} (hg:PG3 X (.Tuple es k tp) (aaD is)) (he:cR X e te) (hs:swapsWithSole [.Tuple es k tp] e pos.line X.env=pure false) (hw:swappedStores [.Tuple es k tp] e X.env=pure none)
    (h1:(assignEach [.Tuple es k tp] X.env).map (·.2)=[assign (.Tuple es k tp) X.env]):PS3 X (.Assign [.Tuple es k tp] e pos) (aaF is te):=PS.imp (aBJ he hg hs hw h1) fun F σ H h=>by
  obtain ⟨ρ,G,E,s,g,q,d⟩:=h;exact ⟨ρ,G,_,s,g,q,fun v H' x G' t1 r g1 h=>⟨ρ,x,_,s.mono t1,r,h,fun ρ' σ' s' q'=>d.nx ρ' G' σ' H' s' g1 q'⟩⟩
end
theorem ints_of {K:Fg} {H:Hp}:∀ {ns:List Int} {vs:List V} {us:List Value},cN K H (ns.map D.int) vs->Vals vs us->∃ ys:List (Int×Tok),us=ys.map (fun p=>Value.int p.1 p.2)/\ys.map (·.1)=ns
  | [],_,_,r,v=>by cases r;cases v;exact ⟨[],rfl,rfl⟩
  | n :: ns,_,_,r,v=>by
    cases r with
    | cons h r =>
      cases h with
      | int i =>
        cases v with
        | cons hu v =>
          obtain ⟨t,rfl⟩:=hu;obtain ⟨ys,e1,e2⟩:=ints_of r v;exact ⟨(n,t) :: ys,by rw [e1];rfl,by rw [dj,e2]⟩
noncomputable def ax0 (xs:List D) (G:Gp) (P:List D->Prop) (O:Prop):Prop:=match xs with
  | [.ref q]=>(match bY G q with
    | some ds=>P ds
    | none=>False)
  | _=>O
noncomputable def ah9:List D->Gp->j4->Prop:=fun xs G R=>ax0 xs G (fun ds=>∃ ns:List Int,ds=ns.map D.int/\R (.int ns.sum) G) False
section
variable {X:Cx}
theorem aDK {xs:List D} {vs:List V} {P:List D->Prop} {O:Prop} {σ:St} (I:Inv X pins σ H s) (rx:cN X.K H xs vs) (rv:Vals vs us) (g:HR X.K H G)
    (h:ax0 xs G P O):(∃ a ds ys its,us=[.ref a]/\cN X.K H ds ys/\Vals ys its/\s.heap.IsList a its.toArray/\P ds)∨O:=by
  cases rx with
  | nil=>exact .inr h
  | cons r1 rr =>
    cases rr with
    | cons _ _=>cases r1 <;> exact .inr h
    | nil =>
      cases r1 with
      | ref a =>
        obtain ⟨u,rfl,ru⟩:=vals1 rv;cases ru
        have q':(match bY G a with
          | some ds=>P ds
          | none=>False):=h
        split at q'
        . rename_i ds e1;obtain ⟨ys,hq,r1⟩:=d8 g e1;obtain ⟨its,rv',p,hz⟩:=I.list hq;exact .inl ⟨a,ds,ys,its,rfl,r1,rv',p.isList,q'⟩
        . exact q'.elim
      | _=>exact .inr h
theorem int_list (p:s.heap.IsList a (zs.map fun p=>Value.int p.1 p.2).toArray):s.heap.IsList a (intItems zs.toArray):=by
  have:intItems zs.toArray=(zs.map fun p=>Value.int p.1 p.2).toArray:=by simp [intItems]
  rw [this];exact p
theorem aJA (hc:X.calm=true):cU X (.builtin "sum") ah9:=by
  intro pins s σ H xs vs us G R Q I rx rv g q k;rcases aDK I rx rv g q with ⟨a,ds,ys,its,rfl,r1,rv',p,ns,rfl,q'⟩ | z
  . obtain ⟨zs,rfl,e2⟩:=ints_of r1 rv';refine sum_intListG (I.ok.hd hc) (int_list p) fun h' tk t' kk=>?_
    have e3:preSum (numAt zs.toArray) zs.toArray.size=ns.sum:=by
      rw [preSum_eq,List.take_of_length_le (by simp)];rw [← e2]
    rw [e3];exact ⟨.int _,H,I.kept kk,⟨t',rfl⟩,k _ H _ G (.refl H) (.int _) g q'⟩
  . exact z.elim
noncomputable def af3:List D->Gp->j4->Prop:=fun xs G R=>ax0 xs G (fun ds=>∃ ns:List Int,ds=ns.map D.int/\ns≠[]/\∀ M,M∈ns->(∀ a∈ns,a<=M)->R (.int M) G) (aA6 xs G R)
noncomputable def af4:List D->Gp->j4->Prop:=fun xs G R=>ax0 xs G (fun ds=>∃ ns:List Int,ds=ns.map D.int/\ns≠[]/\∀ M,M∈ns->(∀ a∈ns,M<=a)->R (.int M) G) (aA5 xs G R)
theorem arC (e2:zs.map (·.1)=ns) (h:j < zs.toArray.size):numAt zs.toArray j∈ns:=by
  rw [numAt_eq,← e2];exact getD_mem (by simpa using h)
theorem arD (e2:zs.map (·.1)=ns) {a:Int} (h:a∈ns):∃ j,j < zs.toArray.size/\numAt zs.toArray j=a:=by
  rw [← e2] at h;obtain ⟨j,hj,rfl⟩:=mem_getD h;exact ⟨j,by simpa using hj,by rw [numAt_eq]⟩
theorem aDL (hc:X.calm=true):cU X (.builtin "max") af3:=by
  intro pins s σ H xs vs us G R Q I rx rv g q k;rcases aDK I rx rv g q with ⟨a,ds,ys,its,rfl,r1,rv',p,ns,rfl,hne,q'⟩ | z
  . obtain ⟨zs,rfl,e2⟩:=ints_of r1 rv'
    have hsz:0 < zs.toArray.size:=by
      cases zs with
      | nil=>exact absurd e2.symm hne
      | cons _ _=>simp
    refine max_intList (I.ok.hd hc) (int_list p) hsz fun v h' tk hv kk=>?_;obtain ⟨t,rfl⟩:=intItems_at hv;obtain ⟨h1,h2⟩:=argBest_gt (numAt zs.toArray) (zs.toArray.size - 1);refine ⟨.int _,H,I.kept kk,⟨t,rfl⟩,k _ H _ G (.refl H) (.int _) g (q' _ (arC e2 (by omega)) fun a ha=>?_)⟩;obtain ⟨j,hj,rfl⟩:=arD e2 ha;exact h2 j (by omega)
  . exact aJ9 hc pins s σ H _ vs us G R Q I rx rv g z k
theorem aDM (hc:X.calm=true):cU X (.builtin "min") af4:=by
  intro pins s σ H xs vs us G R Q I rx rv g q k;rcases aDK I rx rv g q with ⟨a,ds,ys,its,rfl,r1,rv',p,ns,rfl,hne,q'⟩ | z
  . obtain ⟨zs,rfl,e2⟩:=ints_of r1 rv'
    have hsz:0 < zs.toArray.size:=by
      cases zs with
      | nil=>exact absurd e2.symm hne
      | cons _ _=>simp
    refine min_intList (I.ok.hd hc) (int_list p) hsz fun v h' tk hv kk=>?_;obtain ⟨t,rfl⟩:=intItems_at hv;obtain ⟨h1,h2⟩:=argBest_lt (numAt zs.toArray) (zs.toArray.size - 1);refine ⟨.int _,H,I.kept kk,⟨t,rfl⟩,k _ H _ G (.refl H) (.int _) g (q' _ (arC e2 (by omega)) fun a ha=>?_)⟩;obtain ⟨j,hj,rfl⟩:=arD e2 ha;exact h2 j (by omega)
  . exact aJ8 hc pins s σ H _ vs us G R Q I rx rv g z k
end
end
variable {x:D}{vx:V}
section
noncomputable def ok2 (G:Gp) (x y:D):Bool:=match x,y with
  | .ref p,.ref q=>(match bY G p,bY G q with
    | some xs,some ys=>xs.all (aQ 17)&&ys.all (aQ 17)
    | _,_=>false)
  | x,y=>aQ 18 x&&aQ 18 y
noncomputable def eq2 (G:Gp) (x y:D):Bool:=match x,y with
  | .ref p,.ref q=>(match bY G p,bY G q with
    | some xs,some ys=>rY xs ys
    | _,_=>false)
  | x,y=>eqP x y
noncomputable def aDN (G:Gp):List D->List D->Bool
  | x :: xs,y :: ys=>ok2 G x y&&aDN G xs ys
  | _,_=>true
noncomputable def aDO (G:Gp):List D->List D->Bool
  | [],[]=>true
  | x :: xs,y :: ys=>eq2 G x y&&aDO G xs ys
  | _,_=>false
section
variable {X:Cx}
noncomputable def aJB (G:Gp) (x y:D) (k:Bool->Prop):Prop:=match x,y with
  | .tup xs,.tup ys=>aDN G xs ys=true/\k (aDO G xs ys)
  | .ref a,.ref b=>(match bY G a,bY G b with
    | some xs,some ys=>aDN G xs ys=true/\k (aDO G xs ys)
    | _,_=>False)
  | _,_=>False
noncomputable def aJC:R3:=fun x y G R=>aJB G x y fun b=>R (.bl b) G
noncomputable def aJD:R3:=fun x y G R=>aJB G x y fun b=>R (.bl (!b)) G
noncomputable def arE (x:D) (G:Gp) (f:Addr->List D->Prop):Prop:=match x with
  | .ref p=>(match G p with
    | some (.lst ds)=>f p ds
    | _=>False)
  | _=>False
theorem arF {K:Fg} {f:Addr->List D->Prop} (rx:RD K H x vx) (g:HR K H G) (h:arE x G f):∃ p ds xs,x = .ref p/\vx = .ref p/\G p=some (.lst ds)/\H p=some (.lst xs)/\cN K H ds xs/\f p ds:=by
  unfold arE at h;split at h
  . rename_i p;split at h
    . rename_i ds e;cases rx;obtain ⟨xs,e1,r⟩:=g p _ e;exact ⟨p,ds,xs,rfl,rfl,e,e1,r,h⟩
    . exact h.elim
  . exact h.elim
noncomputable def aA7:RM3:=fun x xs G R=>match xs with
  | []=>arE x G fun p ds=>match ds[ds.length - 1]? with
    | some d=>R d (aL G p (.lst ds.dropLast))
    | none=>False
  | _=>False
theorem a5O {K:Fg} {H:Hp}:∀ {ds:List D} {xs:List V},cN K H ds xs->cN K H ds.dropLast xs.dropLast
  | _,_,.nil => .nil
  | _,_,.cons h .nil => .nil
  | _,_,.cons h (.cons h' r) => .cons h (a5O (.cons h' r))
theorem aA8:a8W X "list.pop" aA7:=a8W.of aCA fun H x xs vx vs G R Q rx rs g q k=>by
  cases rs with
  | cons _ _=>exact False.elim q
  | nil =>
    obtain ⟨p,ds,ys,rfl,rfl,e,e1,r,q'⟩:=arF rx g q;split at q'
    . rename_i d ed;obtain ⟨v,ev,rv⟩:=r.get ed;have hl:ds.length=ys.length:=r.length;refine ⟨p,ys,v,rfl,rfl,e1,by rw [← hl];exact ev,fun _=>?_⟩;have tt:Ts H (upd H p (.lst ys.dropLast)) := .turn e1 (fun _ z=>nomatch z) (fun _ _ z=>nomatch z);exact k _ _ _ _ tt (rv.mono tt) (g.turn (u := .lst ds.dropLast) tt ⟨_,aJ,(a5O r).mono tt⟩) q'
    . exact q'.elim
end
end
section
section
variable {X:Cx} {C:Addr} {bmB bmN:List Value} {B Bn newId nid initId inN:String} {x:Str} {np cpos:Pos} {e:Expr} {es:List Expr} {t:yH}
noncomputable def arG (C:Addr) (t:yH):cL:=fun ρ G R=>t ρ G fun ds G1=>ds.length<=sizeLine/\∀ x,G1 x=none->R (.ref x) (aL G1 x (.exn C))
theorem arH {σ:St} {x:Addr} (I:Inv X pins σ H s) (hm:a0c s.heap h' x (.ref C) us) :
    ∃ o vs,H x=none/\Inv X pins σ (upd H x (.lW o (.ext (a2Y C x)))) { s with heap:=h' }/\o.data = .fields vs/\vs[2]?=some .none:=by
  obtain ⟨t,e1,_,_⟩:=hm.there;have nxH:H x=none:=agW I.hok hm.new;refine ⟨{ cls := .ref C,data := .fields #[.ref t,.none,.none,.none,.bool false,.none] },#[.ref t,.none,.none,.none,.bool false,.none],nxH,?_,rfl,rfl⟩;generalize ho:({ cls := .ref C,data := .fields #[.ref t,.none,.none,.none,.bool false,.none] }:Obj)=o at e1;have sn:Same H (upd H x (.lW o (.ext (a2Y C x)))):=bU nxH;have nst:∀ b u,s.heap.get? b=some u->b≠x:=fun b u e z=>by subst z;rw [hm.new] at e;cases e
  refine I.call' (ch:=[]) (s':={ s with heap:=h' }) rfl ⟨fun b u e n _ _=>hm.keeps b u e,fun b u e n _ _=>⟨u.slots,hm.keeps b u e⟩,fun b u e n _=>by rw [aX (nst b u e)];exact n,fun b u e _=>⟨u,hm.keeps b u e⟩,fun b xs z=>sn _ _ z,fun b u v z=>sn _ _ z,fun b ps z=>⟨#[],by rw [Array.append_empty];exact sn _ _ z⟩⟩ (fun b u e=>?_) I.bare fun b z=>absurd z (by simp);by_cases hb:b=x
  . subst hb;rw [aJ] at e;cases e;exact ⟨e1,⟨o,_,e1,by rw [← ho],by rw [← ho]⟩,⟨o,e1⟩,fun h1 h2 ⟨o1,w1,e1,e2,e3⟩ k=>⟨o1,w1,k _ e1,e2,e3⟩⟩
  . rw [aX hb] at e;exact ((I.hok.kept hm.keeps) b u e).stay (fun _ _ _ z=>z) (fun c z=>sn _ _ z) fun c xs z=>sn _ _ z
theorem ahA {σ:St} {Q:VK} (Fn:ExcBaseFacts Bn newId inN bmN) (hBn:bmB.contains (.type Bn)=true) (FB:ExcBaseFacts B nid initId bmB) (hq:jf X.K C bmB newId=true) (I:Inv X pins σ H s) (g:HR X.K H G) (hl:us.length<=sizeLine) (q:∀ x,G x=none->R (.ref x) (aL G x (.exn C)))
    (k:∀ v H' d G',Ts H H'->RD X.K H' d v->HR X.K H' G'->R d G'->Q v H'):wpAny (model X.prog X.w) X.A (call (.ref C) us) (EP X pins σ Q) X.xe s:=by
  obtain ⟨tl,N,nm,q',bs,hdct,sn,sub,ab,col,dd',k0,k1,k2,k3,k5,mN,hC,hN,hni,T⟩:=a9G I.mod.kin hq;obtain ⟨h,g0,d0,t0,os0⟩:=s;refine wpAny_call_exc_subU (hrest:=hl) Fn hBn FB (T.keeps I.bk) (I.bk _ _ hC) (hN.keeps I.bk) hni fun h' x hm=>?_;obtain ⟨o,vs,nx,J,d1,d2⟩:=arH I hm;have sn:Same H (upd H x (.lW o (.ext (a2Y C x)))):=bU nx;exact ⟨.ref x,_,J,rfl,k _ _ _ _ (.same sn) (.ref x) (g.put (u := .exn C) nx ⟨o,vs,aJ,d1,d2⟩) (q x (nQ (K:=X.K) g nx (wN (X:=X) J)))⟩
theorem aJE (Fn:ExcBaseFacts Bn newId inN bmN) (hBn:bmB.contains (.type Bn)=true) (FB:ExcBaseFacts B nid initId bmB) (hg:Gl X x) (hm:X.mg x=some (.ref C)) (hq:jf X.K C bmB newId=true) (ha:PA3 X (e :: es) t) (hd:(x == ("__debug__" : Str))=false)
    (he:starEach (e :: es) X.env=(false,eval e X.env) :: starEach es X.env) (hpl:(backTo cpos (starEach es X.env)).any (·.1)=false):cR X (.Call (.Name x np) (e :: es) [] cpos) (arG C t):=by
  intro pins s σ H Q I h;obtain ⟨ρ,G,R,sr,g,q,kk⟩:=h;obtain ⟨tl,N,nm,q',bs,hdct,sn,sub,ab,col,dd',k0,k1,k2,k3,k5,mN,hC,hN,hni,T⟩:=a9G I.mod.kin hq;refine wpAny_Call_ofName (rT I hg hm ?_ hd);unfold callWith;have hA:=ha cpos pins s σ H (fun vs H1=>Ts H H1/\∃ ds G1,cN X.K H1 ds vs/\HR X.K H1 G1/\ds.length<=sizeLine/\∀ x,G1 x=none->R (.ref x) (aL G1 x (.exn C))) I ⟨ρ,G,_,sr,g,q,fun vs H1 ds G1 t1 r1 g1 q1=>⟨t1,ds,G1,r1,g1,q1.1,q1.2⟩⟩;have hp2:(backTo cpos (starEach (e :: es) X.env)).any (·.1)=false:=by rw [he];show (false || (backTo cpos (starEach es X.env)).any (·.1))=false;rw [hpl];rfl
  rw [he] at hA hp2 ⊢;refine aj (wpAny_holding (Calls.evalArgs_plain (f9 hA fun us s2 ⟨vs,H2,I2,r2,t1,ds,G1,r1,g1,hl,q1⟩=>aj (wpAny_standAt ?_))));have hl2:us.length<=sizeLine:=by rw [← r2.length,← r1.length];exact hl
  simp only [hp2];obtain ⟨h0,g0,d0,t0,os0⟩:=s2;refine aj (wpAny_keeperOf_exc (I2.bk _ _ hC) ?_);refine aj (f9 (ahA Fn hBn FB hq I2 g1 hl2 q1 fun v H' d G' t3=>kk v H' d G' (t1.trans t3)) fun v s3 q3=>aj (wpAny_holding (wpAny_point (aq q3))))
theorem aDP (Fn:ExcBaseFacts Bn newId inN bmN) (hBn:bmB.contains (.type Bn)=true) (FB:ExcBaseFacts B nid initId bmB) (hg:Gl X x) (hm:X.mg x=some (.ref C)) (hq:jf X.K C bmB newId=true) (hd:(x == ("__debug__" : Str))=false):cR X (.Call (.Name x np) [] [] cpos) (arG C aD):=by
  intro pins s σ H Q I h;obtain ⟨ρ,G,R,sr,g,⟨hl,q⟩,kk⟩:=h;obtain ⟨tl,N,nm,q',bs,hdct,sn,sub,ab,col,dd',k0,k1,k2,k3,k5,mN,hC,hN,hni,T⟩:=a9G I.mod.kin hq;refine wpAny_Call_ofName (rT I hg hm ?_ hd);unfold callWith;refine aj (wpAny_holding (PySem.evalArgs_none (aj (wpAny_standAt ?_))));obtain ⟨h0,g0,d0,t0,os0⟩:=s;refine aj (wpAny_keeperOf_exc (I.bk _ _ hC) ?_);refine aj (f9 (ahA (us:=[]) Fn hBn FB hq I g (lu _) q kk) fun v s3 q3=>aj (wpAny_holding (wpAny_point (aq q3))))
end
end
variable {pl:Sem Bool}
section
noncomputable def arI (C:Addr) (f:Str) (x:D) (G:Gp) (R:j4):Prop:=match x with
  | .ref a=>(match G a with
    | some (.ins C' fs)=>C'=C/\(match fs.lookup f with
      | some d=>R d G
      | none=>False)
    | _=>False)
  | _=>False
noncomputable def lU (C:Addr) (ta:cL) (f:Str):cL:=fun ρ G R=>ta ρ G fun x G1=>arI C f x G1 R
theorem aaG {K:Fg} {H:Hp} {f:Str}:∀ {fs:List (Str×D)} {vs:List (Str×V)} {d:D},Two (fun p q=>p.1=q.1/\RD K H p.2 q.2) fs vs->fs.lookup f=some d->∃ v,vs.lookup f=some v/\RD K H d v
  | _,_,_,.nil,e=>by cases e
  | (g,x) :: fs,(g',y) :: vs,d,.cons h r,e=>by
    obtain ⟨rfl,h2⟩:=h;unfold qe at e ⊢;split at e
    . rename_i q;rw [q];cases e;exact ⟨y,rfl,h2⟩
    . rename_i q;rw [q];exact aaG r e
noncomputable def ahB (f:Str) (d:D):List (Str×D)->List (Str×D)
  | []=>[(f,d)]
  | (g,x) :: r=>if g=f then (g,d) :: r else (g,x) :: ahB f d r
theorem am0 {K:Fg} {H:Hp} {f:Str} {d:D} {v:V} (h:RD K H d v):∀ {fs:List (Str×D)} {vs:List (Str×V)},Two (fun p q=>p.1=q.1/\RD K H p.2 q.2) fs vs->Two (fun p q=>p.1=q.1/\RD K H p.2 q.2) (ahB f d fs) (yK f v vs)
  | _,_,.nil => .cons ⟨rfl,h⟩ .nil
  | (g,x) :: fs,(g',y) :: vs,.cons q r=>by
    obtain ⟨rfl,q2⟩:=q;unfold ahB yK;by_cases c:g=f
    . rw [if_pos c,if_pos c];exact .cons ⟨rfl,h⟩ r
    . rw [if_neg c,if_neg c];exact .cons ⟨rfl,q2⟩ (am0 h r)
section
variable {X:Cx} {o e value:Expr} {f:Str} {C:Addr} {pos pos':Pos} {ta tv:cL}
theorem aJF (he:cR X e ta) (c:Cls X.K C) (n:oR X.K C f) (hb:attributeBase e f X.env (eval e X.env)=eval e X.env):cR X (.Attribute e f pos) (lU C ta f):=by
  refine PE.imp (aBV he hb) fun σ H Q h=>?_;obtain ⟨ρ,G,R,s,g,t,k⟩:=h;refine ⟨ρ,G,_,s,g,t,fun v H1 x G1 t1 rx g1 t'=>?_⟩;unfold arI at t';split at t'
  . rename_i a;split at t'
    . rename_i C' fs e1;obtain ⟨rfl,t'⟩:=t';split at t'
      . rename_i d e2;obtain ⟨dx,vs,e3,r⟩:=g1 a _ e1;obtain ⟨w,e4,rw⟩:=aaG r e2;cases rx;exact ⟨a,_,dx,vs,w,rfl,e3,c,n,e4,k w H1 d G1 t1 rw g1 t'⟩
      . exact t'.elim
    . exact t'.elim
  . exact t'.elim
noncomputable def ahC (C:Addr) (f:Str) (x y:D) (F:fX) (ρ:aO) (G:Gp):Prop:=match x with
  | .ref a=>(match G a with
    | some (.ins C' fs)=>C'=C/\fs.length < 1000/\F.nx ρ (aL G a (.ins C (ahB f y fs)))
    | _=>False)
  | _=>False
noncomputable def a75 (C:Addr) (ta tv:cL) (f:Str):bJ:=fun F ρ G=>tv ρ G fun y G1=>ta ρ G1 fun x G2=>ahC C f x y F ρ G2
theorem aDQ (ha:cR X o ta) (hv:cR X value tv) (c:Cls X.K C) (n:oR X.K C f) (hs:swapsWith value (some (.Attribute o f pos')) pos.line X.env=pure false):PS3 X (.Assign [.Attribute o f pos'] value pos) (a75 C ta tv f):=by
  refine PS.imp (aBW ha hv hs) fun F σ H h=>?_;obtain ⟨ρ,G,E,s,g,t,u⟩:=h;refine ⟨ρ,G,_,s,g,t,fun y H1 d G1 t1 ry g1 t'=>?_⟩;refine ⟨ρ,G1,_,s.mono t1,g1,t',fun v H2 x G2 t2 rx g2 t''=>?_⟩;unfold ahC at t'';split at t''
  . rename_i a;split at t''
    . rename_i C' fs e1;obtain ⟨rfl,hl,t''⟩:=t'';obtain ⟨dx,vs,e3,r⟩:=g2 a _ e1;have ry2:=ry.mono t2;have tt:Ts H2 (upd H2 a (.ins C' dx (yK f y vs))):=Ts.turn e3 (fun _ z=>by cases z) (fun _ _ z=>by cases z);cases rx;refine ⟨a,_,dx,vs,rfl,e3,c,n,by rw [← r.length];exact hl,u.nx ρ _ σ _ ((s.mono t1).mono t2 |>.mono tt) (HR.turn g2 tt ?_) t''⟩;exact ⟨dx,_,aJ,(am0 ry2 r).imp fun _ _ q=>⟨q.1,q.2.mono tt⟩⟩
    . exact t''.elim
  . exact t''.elim
end
variable {Q:VK}{vs:List V}
section
variable {X:Cx} {qt:Bool} {k:Nat} {f C:Addr} {fd:FuncData} {ps:List Str} {sp:uX} {EX:aO->aZ} {x m:Str} {p pos apos:Pos} {o e:Expr} {es:List Expr} {t:yH} {ta:cL} {dd:List D} {dvs:List V} {ds:List Value}
theorem ahD {σ:St} {Q':VK} {E:XK} (F:cM qt X.prog X.w X.K X.mg X.base (oJ X.prog X.w) k f fd ps (dB X.K sp)) (hr:jH qt k X.A) (hb:Binds X.K fd ps ds) (hd:Vals dvs ds)
    (hx:∀ e s',oJ X.prog X.w X.stack H s E e s'->X.xe e s')
    (I:Inv X pins σ H s) (r:Vals vs us) (h:dB X.K sp (vs++dvs) H Q E) (hQ:∀ v H',Ts H H'->Q v H'->Q' v H'):wpAny (model X.prog X.w) X.A (call (.ref f) us) (EP X pins σ Q') X.xe s:=by
  have hl:(us++ds).length=ps.length:=by rw [← (r.append hd).length];exact F.len _ _ _ _ h
  refine wpAny_call (codeAny_mono (F.run X.A X.stack s H ⟨us,[]⟩ (us++ds) (vs++dvs) Q E hr I.env0 (hb s us I.kIn hl) (r.append hd) h) fun r s' hq=>?_);cases r with
  | error e=>exact hx e s' hq
  | ok fl =>
    cases fl with
    | ret u =>
      obtain ⟨v,H',os,bare,un,hok,r,q⟩:=hq;exact ⟨v,H',I.call' (ch:=[]) os un hok bare (fun b z=>absurd z (by simp)),r,hQ v H' ⟨un.tups,un.m7⟩ q⟩
    | next=>exact False.elim hq
    | brk=>exact False.elim hq
    | cont=>exact False.elim hq
noncomputable def ahE (C:Addr) (m:Str) (x:D) (G:Gp):Prop:=∃ a fs,x = .ref a/\G a=some (.ins C fs)/\fs.lookup m=none
noncomputable def jJ (C:Addr) (m:Str) (sp:uX) (dd:List D) (EX:aO->aZ) (ta:cL) (t:yH):cL:=fun ρ G R=>ta ρ G fun x G1=>ahE C m x G1/\t ρ G1 fun ds G2=>sp (x :: (ds++dd)) G2 R (EX ρ)
theorem aaH {K:Fg} {H:Hp} {f:Str}:∀ {fs:List (Str×D)} {vs:List (Str×V)},Two (fun p q=>p.1=q.1/\RD K H p.2 q.2) fs vs->fs.lookup f=none->vs.lookup f=none
  | _,_,.nil,e=>rfl
  | (g,x) :: fs,(g',y) :: vs,.cons h r,e=>by
    obtain ⟨rfl,h2⟩:=h;unfold qe at e ⊢;split at e
    . cases e
    . rename_i q;rw [q];exact aaH r e
theorem ax1 (ho:cR X o ta) (c:Cls X.K C) (hm:Meth X.K C m f) (F:cM qt X.prog X.w X.K X.mg X.base (oJ X.prog X.w) k f fd ps (dB X.K sp)) (hr:jH qt k X.A) (hb:Binds X.K fd ps ds) (hd:Vals dvs ds) (hdd:∀ H,cN X.K H dd dvs) (hx:Cat X EX)
    (ha:PA3 X (e :: es) t) (hst:starEach (e :: es) X.env=(false,eval e X.env) :: starEach es X.env) (hpl:(backTo pos (starEach es X.env)).any (·.1)=false)
    (ht:eval (.Call (.Attribute o m apos) (e :: es) [] pos) X.env=(do
      let ov ← eval o X.env
      standAt apos.atName
      let (f,first) ← holding [ov] (getMethod ov m pl)
      callWith pos f first (backTo pos (starEach (e :: es) X.env)) (backToKw pos (keywordEach [] X.env)))) :
    cR X (.Call (.Attribute o m apos) (e :: es) [] pos) (jJ C m sp dd EX ta t):=by
  intro pins s σ H Q I h;obtain ⟨ρ,G,R,sr,g,q,kk⟩:=h;refine PySem.W.methodCall_KW (pl:=pl) (f9 (ho pins s σ H (fun v H1=>∃ d G1,Ts H H1/\RD X.K H1 d v/\HR X.K H1 G1/\ahE C m d G1/\t ρ G1 fun ds G2=>sp (d :: (ds++dd)) G2 R (EX ρ)) I ⟨ρ,G,_,sr,g,q,fun v H1 d G1 t1 r1 g1 q1=>⟨d,G1,t1,r1,g1,q1⟩⟩) fun u s1 ⟨x,H1,I1,rx,d,G1,t1,r1,g1,⟨a,fs,ed,ea,el⟩,q1⟩=>?_) ht;subst ed;cases r1;obtain rfl:u=Value.ref a:=rx;obtain ⟨dx,vs,e3,r⟩:=g1 a _ ea;refine a9X I1 e3 c hm (aaH r el) ?_;refine a0f (first:=[.ref a]) (h₀:=X.base) I.ok.mod.kin hm.kp (f9 (ha pos pins s1 σ H1 (fun vs H2=>Ts H1 H2/\∃ ds G2,cN X.K H2 ds vs/\HR X.K H2 G2/\sp (.ref a :: (ds++dd)) G2 R (EX ρ)) I1 ⟨ρ,G1,_,sr.mono t1,g1,q1,fun vs H2 ds G2 t2 r2 g2 q2=>⟨t2,ds,G2,r2,g2,q2⟩⟩) fun us s2 ⟨vs,H2,I2,r,t2,vX,G2,r2,g2,q2⟩=>⟨I2.kIn,?_⟩) hst hpl;refine ahD (us := .ref a :: us) (vs := .ref a :: vs) (E:=a2Z X.K (EX ρ)) F hr hb hd (fun e s' c=>hx.adL pins σ H2 s2 ρ e s' I2 ((sr.mono t1).mono t2) c) I2 (.cons rfl r) (Q:=fun v H'=>∃ d G',RD X.K H' d v/\HR X.K H' G'/\R d G') ⟨.ref a :: (vX++dd),G2,R,EX ρ,.cons (.ref a) (r2.append (hdd H2)),g2,q2,fun v H' d G' r3 g3 q3=>⟨d,G',r3,g3,q3⟩,fun C H' G' g' q'=>⟨C,G',rfl,g',q'⟩⟩ fun v H' t3 ⟨d,G',r3,g3,q3⟩=>kk v H' d G' ((t1.trans t2).trans t3) r3 g3 q3
theorem arJ (ho:cR X o ta) (c:Cls X.K C) (hm:Meth X.K C m f) (F:cM qt X.prog X.w X.K X.mg X.base (oJ X.prog X.w) k f fd ps (dB X.K sp)) (hr:jH qt k X.A) (hb:Binds X.K fd ps ds) (hd:Vals dvs ds) (hdd:∀ H,cN X.K H dd dvs) (hx:Cat X EX)
    (ht:eval (.Call (.Attribute o m apos) [] [] pos) X.env=(do
      let ov ← eval o X.env
      standAt apos.atName
      let (f,first) ← holding [ov] (getMethod ov m pl)
      callWith pos f first (backTo pos (starEach [] X.env)) (backToKw pos (keywordEach [] X.env)))) :
    cR X (.Call (.Attribute o m apos) [] [] pos) (jJ C m sp dd EX ta aD):=by
  intro pins s σ H Q I h;obtain ⟨ρ,G,R,sr,g,q,kk⟩:=h;refine PySem.W.methodCall_KW (pl:=pl) (f9 (ho pins s σ H (fun v H1=>∃ d G1,Ts H H1/\RD X.K H1 d v/\HR X.K H1 G1/\ahE C m d G1/\aD ρ G1 fun ds G2=>sp (d :: (ds++dd)) G2 R (EX ρ)) I ⟨ρ,G,_,sr,g,q,fun v H1 d G1 t1 r1 g1 q1=>⟨d,G1,t1,r1,g1,q1⟩⟩) fun u s1 ⟨x,H1,I1,rx,d,G1,t1,r1,g1,⟨a,fs,ed,ea,el⟩,q1⟩=>?_) ht;subst ed;cases r1;obtain rfl:u=Value.ref a:=rx;obtain ⟨dx,vs,e3,r⟩:=g1 a _ ea;refine a9X I1 e3 c hm (aaH r el) ?_;refine zy (first:=[.ref a]) I1.kIn hm.kp ?_;refine ahD (us:=[.ref a]) (vs:=[.ref a]) (E:=a2Z X.K (EX ρ)) F hr hb hd (fun e s' c=>hx.adL pins σ H1 s1 ρ e s' I1 (sr.mono t1) c) I1 (.cons rfl .nil) (Q:=fun v H'=>∃ d G',RD X.K H' d v/\HR X.K H' G'/\R d G') ⟨.ref a :: dd,G1,R,EX ρ,.cons (.ref a) (hdd H1),g1,q1,fun v H' d G' r3 g3 q3=>⟨d,G',r3,g3,q3⟩,fun C H' G' g' q'=>⟨C,G',rfl,g',q'⟩⟩ fun v H' t3 ⟨d,G',r3,g3,q3⟩=>kk v H' d G' (t1.trans t3) r3 g3 q3
noncomputable def aaI (C:Addr) (sp:uX) (dd:List D) (EX:aO->aZ) (t:yH):cL:=fun ρ G R=>t ρ G fun ds G1=>∀ x,G1 x=none->sp (.ref x :: (ds++dd)) (aL G1 x (.ins C [])) (fun v G2=>v = .non/\R (.ref x) G2) (EX ρ)
theorem adU {σ:St} {vX:List D} (M:Mk X.K C f) (F:cM qt X.prog X.w X.K X.mg X.base (oJ X.prog X.w) k f fd ps (dB X.K sp)) (hr:jH qt (k+1) X.A) (hb:Binds X.K fd ps ds) (hd:Vals dvs ds) (hdd:∀ H,cN X.K H dd dvs) (hx:Cat X EX)
    (I:Inv X pins σ H s) (sr:SR X.K H ρ σ) (g:HR X.K H G) (r:Vals vs us) (r2:cN X.K H vX vs) (h:∀ x,G x=none->sp (.ref x :: (vX++dd)) (aL G x (.ins C [])) (fun v G2=>v = .non/\R (.ref x) G2) (EX ρ))
    (hQ:∀ v H' d G',Ts H H'->RD X.K H' d v->HR X.K H' G'->R d G'->Q v H'):wpAny (model X.prog X.w) X.A (call (.ref C) us) (EP X pins σ Q) X.xe s:=by
  have n1:H (s.heap.objs.size+1)=none:=I.hok.fresh (yt _);have n0:H s.heap.objs.size=none:=I.hok.fresh (au _);have ne:s.heap.objs.size+1≠s.heap.objs.size:=Nat.succ_ne_self _;have I2:=Inv.made (C:=C) I
  have kl:X.K.lookup (s.heap.objs.size+1)=none:=by
    cases q:X.K.lookup (s.heap.objs.size+1) with
    | none=>rfl
    | some u=>have:=wN I2 _ u q;rw [aJ] at this;cases this
  have gn:G (s.heap.objs.size+1)=none:=nQ (o := .ins C s.heap.objs.size []) g n1 fun b u e=>by
    by_cases c:b=s.heap.objs.size+1
    . subst c;rw [kl] at e;cases e
    . rw [aX c];exact wN I b u e
  have t1:Ts H (upd H s.heap.objs.size (.own (s.heap.objs.size+1))) := .same (bU n0);have n1':upd H s.heap.objs.size (.own (s.heap.objs.size+1)) (s.heap.objs.size+1)=none:=by rw [aX ne];exact n1
  have t2:Ts (upd H s.heap.objs.size (.own (s.heap.objs.size+1))) (upd (upd H s.heap.objs.size (.own (s.heap.objs.size+1))) (s.heap.objs.size+1) (.ins C s.heap.objs.size [])) := .same (bU n1');have g1:HR X.K (upd H s.heap.objs.size (.own (s.heap.objs.size+1))) G:=g.same (bU n0);have g2:HR X.K (upd (upd H s.heap.objs.size (.own (s.heap.objs.size+1))) (s.heap.objs.size+1) (.ins C s.heap.objs.size [])) (aL G (s.heap.objs.size+1) (.ins C [])):=g1.put n1' ⟨s.heap.objs.size,[],aJ,.nil⟩
  have hq:dB X.K sp (V.ref (s.heap.objs.size+1) :: (vs++dvs)) (upd (upd H s.heap.objs.size (.own (s.heap.objs.size+1))) (s.heap.objs.size+1) (.ins C s.heap.objs.size [])) (fun v H'=>v = .non/\∃ G',HR X.K H' G'/\R (.ref (s.heap.objs.size+1)) G') (a2Z X.K (EX ρ)) :=
    ⟨.ref (s.heap.objs.size+1) :: (vX++dd),_,_,EX ρ,.cons (.ref _) (((r2.mono t1).mono t2).append (hdd _)),g2,h _ gn,fun v H' d G' r3 g3 q3=>by
      obtain ⟨rfl,q3⟩:=q3;cases r3;exact ⟨rfl,G',g3,q3⟩,fun C H' G' g' q'=>⟨C,G',rfl,g',q'⟩⟩
  have rr:Vals (V.ref (s.heap.objs.size+1) :: (vs++dvs)) (Value.ref (s.heap.objs.size+1) :: (us++ds)) := .cons rfl (r.append hd)
  have hl:(Value.ref (s.heap.objs.size+1) :: us++ds).length=ps.length:=by
    have e:=rr.length;rw [F.len _ _ _ _ hq] at e;exact e.symm
  refine wpAny_call (aq4 (f:=f) I.kIn M.makes M.init (beq_iff_eq.mp M.fn) (codeAny_mono (F.run _ X.stack _ _ ⟨Value.ref (s.heap.objs.size+1) :: us,[]⟩ (Value.ref (s.heap.objs.size+1) :: (us++ds)) _ _ _ (hr.make C us [])
    (I2.env0.make C us []) (hb _ (Value.ref (s.heap.objs.size+1) :: us) I2.kIn hl) rr hq) fun r s' hq'=>?_))
  cases r with
  | error e=>exact hx.adL pins σ _ _ ρ e s' I2 ((sr.mono t1).mono t2) hq'
  | ok fl =>
    cases fl with
    | ret u =>
      obtain ⟨v,H',os,bare,un,hok,rv,ev,G',g3,q3⟩:=hq';subst ev;exact ⟨rv,⟨V.ref (s.heap.objs.size+1),H',I2.call' (ch:=[]) os un hok bare (fun b z=>absurd z (by simp)),rfl,hQ _ H' (.ref _) G' ((t1.trans t2).trans ⟨un.tups,un.m7⟩) (.ref _) g3 q3⟩⟩
    | next=>exact False.elim hq'
    | brk=>exact False.elim hq'
    | cont=>exact False.elim hq'
theorem ax2 (M:Mk X.K C f) (F:cM qt X.prog X.w X.K X.mg X.base (oJ X.prog X.w) k f fd ps (dB X.K sp)) (hr:jH qt (k+1) X.A) (hg:Gl X x) (hm:X.mg x=some (.ref C)) (hb:Binds X.K fd ps ds) (hd:Vals dvs ds) (hdd:∀ H,cN X.K H dd dvs) (hx:Cat X EX)
    (ha:PA3 X (e :: es) t) (hdb:(x == ("__debug__" : Str))=false) (he:starEach (e :: es) X.env=(false,eval e X.env) :: starEach es X.env) (hpl:(backTo pos (starEach es X.env)).any (·.1)=false) :
    cR X (.Call (.Name x p) (e :: es) [] pos) (aaI C sp dd EX t):=by
  intro pins s σ H Q I h;obtain ⟨ρ,G,R,sr,g,q,kk⟩:=h;refine wpAny_Call_Name_kw (rT I hg hm ?_ hdb);refine a0f (h₀:=X.base) I.ok.mod.kin M.kp (f9 (ha pos pins s σ H (fun vs H1=>Ts H H1/\∃ ds G1,cN X.K H1 ds vs/\HR X.K H1 G1/\∀ x,G1 x=none->sp (.ref x :: (ds++dd)) (aL G1 x (.ins C [])) (fun v G2=>v = .non/\R (.ref x) G2) (EX ρ)) I ⟨ρ,G,_,sr,g,q,fun vs H1 ds G1 t1 r1 g1 q1=>⟨t1,ds,G1,r1,g1,q1⟩⟩) fun us s1 ⟨vs,H1,I1,r,t1,ds,G1,r1,g1,q1⟩=>⟨I1.kIn,?_⟩) he hpl;exact adU M F hr hb hd hdd hx I1 (sr.mono t1) g1 r r1 q1 fun v H' d G' t2=>kk v H' d G' (t1.trans t2)
theorem arK (M:Mk X.K C f) (F:cM qt X.prog X.w X.K X.mg X.base (oJ X.prog X.w) k f fd ps (dB X.K sp)) (hr:jH qt (k+1) X.A) (hg:Gl X x) (hm:X.mg x=some (.ref C)) (hb:Binds X.K fd ps ds) (hd:Vals dvs ds) (hdd:∀ H,cN X.K H dd dvs) (hx:Cat X EX)
    (hdb:(x == ("__debug__" : Str))=false):cR X (.Call (.Name x p) [] [] pos) (aaI C sp dd EX aD):=by
  intro pins s σ H Q I h;obtain ⟨ρ,G,R,sr,g,q,kk⟩:=h;refine wpAny_Call_Name_kw (rT I hg hm ?_ hdb);exact zy I.kIn M.kp (adU (us:=[]) (vs:=[]) (vX:=[]) M F hr hb hd hdd hx I sr g .nil .nil q fun v H' d G' t2=>kk v H' d G' t2)
end
end
variable {t':Nat}
section
section
variable {X:Cx} {pins:List (Addr×Obj)} {σ:St} {H:Hp} {s:Shared} {h':Heap}
theorem Inv.aoJ {ch:List Addr} {o:HO} (I:Inv X pins σ H s) (k:∀ b u,b ∉ ch->s.heap.get? b=some u->h'.get? b=some u) (hc:∀ b∈ch,a6S X pins H b) (ha:s.heap.objs.size<=a) (new:gQ X.prog X.w (upd H a o) h' a o):Inv X pins σ (upd H a o) { s with heap:=h',toks:=t' }:=by
  have nit:∀ b u,H b=some u->b ∉ ch:=fun b u e z=>by rw [(hc b z).1] at e;cases e
  have fr:H a=none:=I.hok.fresh ha;have sn:Same H (upd H a o):=bU fr;have na:∀ b u,s.heap.get? b=some u->b≠a:=fun b u e z=>absurd (dz (bh e) (z ▸ ha)) (kh _);refine I.step (g':=s.gens) (d':=s.drawn) (ch:=ch) (fun b hb=>?_) (fun b o _ _ hn e _=>k b o hn e) (fun b o _ _ hn e _=>⟨o.slots,k b o hn e⟩) (fun b u _ e n=>by rw [aX (na b u e)];exact n) (fun b o hn e=>⟨o,k b o hn e⟩) (fun b xs e=>sn _ _ e) (fun b o u e=>sn _ _ e) (fun b ps e=>⟨#[],by rw [sn _ _ e];simp⟩) (fun m hm=>?_) (fun b u e=>?_) I.bare
  . obtain ⟨_,f1,_,f3,f4,f5⟩:=hc b hb;exact ⟨f3,f1,f4,f5⟩
  . obtain ⟨o,es,ep,ho,r⟩:=hm;exact ⟨o,es,ep,k _ o (fun z=>(hc _ z).2.1 rfl) ho,r⟩
  . by_cases hb:b=a
    . subst hb;rw [aJ] at e;cases e;exact new
    . rw [aX hb] at e;refine (I.hok b u e).stay (fun c v hcc q=>k c v ?_ q) (fun _ q=>sn _ _ q) fun _ _ q=>sn _ _ q;rcases hcc with z | z
      . rw [z];exact nit b u e
      . exact nit c _ z
end
section
variable {X:Cx} {es:List Expr} {kt:Nat} {pt:Pos}
end
section
variable {prog:Program} {w:World} {A:Around} {R:Result->Shared->Prop} {I:Addr} {fp wr:List Addr} {n:Nat} {P:Nat->Value->Prop} {St:Nat->Heap->Prop} {kw:List (Str×Value)}
end
section
variable {X:Cx} {x:Str} {p pos kp:Pos} {e d:Expr} {te td:cL}
end
end
variable {kvs:List (DK×D)}{y:D}{vy:V}
section
noncomputable def arL:D->Option Key
  | .int i=>some (.inl i)
  | .str x=>some (.inr x)
  | _=>none
noncomputable def aaJ:List D->Option (List Key)
  | []=>some []
  | d :: r=>match arL d,aaJ r with
    | some k,some ks=>some (k :: ks)
    | _,_=>none
noncomputable def a0G:D->Option DK
  | .int i=>some (.inl (.inl i))
  | .str x=>some (.inl (.inr x))
  | .tup ds=>(match aaJ ds with
    | some ks=>some (.inr ks)
    | none=>none)
  | _=>none
noncomputable def tG:DK->Bool
  | .inl _=>false
  | .inr _=>true
section
variable {κ:Type} [DecidableEq κ] {α:Type}
noncomputable def aK:List (κ×α)->κ->Option α
  | [],_=>none
  | p :: r,k=>if p.1=k then some p.2 else aK r k
noncomputable def dR (kvs:List (κ×α)) (k:κ) (v:α):List (κ×α):=if (aK kvs k).isSome=true then kvs.map (fun kv=>if kv.1=k then (kv.1,v) else kv) else kvs++[(k,v)]
noncomputable def bI (kvs:List (κ×α)) (k:κ):List (κ×α):=kvs.filter fun kv=>!decide (kv.1=k)
end
variable {d:D}{v:V}
theorem am1 {K:Fg} {k:Key} (r:RD K H d v) (e:arL d=some k):v=kV k:=by
  cases r <;> first
    | (cases e;rfl)
    | cases e
theorem ahF {K:Fg} {H:Hp}:∀ {ds:List D} {vs:List V} {ks:List Key},cN K H ds vs->aaJ ds=some ks->vs=ks.map kV
  | _,_,_,.nil,e=>by cases e;rfl
  | d :: ds,v :: vs,ks,.cons h r,e=>by
    unfold aaJ at e;split at e
    . rename_i k ks' e1 e2;cases e;rw [am1 h e1,ahF r e2];rfl
    . cases e
noncomputable abbrev v7 {κ:Type} (K:Fg) (H:Hp) (f:κ->DK):List (DK×D)->List (κ×V)->Prop:=Two fun p q=>p.1=f q.1/\RD K H p.2 q.2
section
variable {κ:Type} [DecidableEq κ] {K:Fg} {H:Hp} {f:κ->DK}
theorem val_two (hf:∀ a b,f a=f b->a=b) {k:κ}:∀ {kvs:List (DK×D)} {xs:List (κ×V)},v7 K H f kvs xs->(∀ d,aK kvs (f k)=some d->∃ v,a05 xs k=some v/\RD K H d v)/\(aK kvs (f k)=none->a05 xs k=none)
  | _,_,.nil=>⟨fun d e=>(nomatch e),fun _=>rfl⟩
  | p :: kvs,q :: xs,.cons h r=>by
    obtain ⟨h1,h2⟩:=h;by_cases c:q.1=k
    . have c2:p.1=f k:=by rw [h1,c]
      unfold aK;rw [if_pos c2,a06 c];exact ⟨fun d e=>by cases e;exact ⟨_,rfl,h2⟩,fun e=>(nomatch e)⟩
    . have c2:¬ p.1=f k:=fun z=>c (hf _ _ (h1.symm.trans z));unfold aK;rw [if_neg c2,a07 c];exact val_two hf r
theorem arM (hf:∀ a b,f a=f b->a=b) {k:κ} {xs:List (κ×V)} (t:v7 K H f kvs xs):(aK kvs (f k)).isSome=(a05 xs k).isSome:=by
  have z:=val_two hf (k:=k) t;cases e:aK kvs (f k) with
  | none=>rw [z.2 e];rfl
  | some d=>obtain ⟨v,e2,_⟩:=z.1 d e;rw [e2];rfl
theorem am2 {g:DK×D->DK×D} {h:κ×V->κ×V} (gh:∀ p q,p.1=f q.1/\RD K H p.2 q.2->(g p).1=f (h q).1/\RD K H (g p).2 (h q).2):∀ {kvs:List (DK×D)} {xs:List (κ×V)},v7 K H f kvs xs->v7 K H f (kvs.map g) (xs.map h)
  | _,_,.nil => .nil
  | _,_,.cons z r => .cons (gh _ _ z) (am2 gh r)
theorem ahG {p:DK×D} {q:κ×V} (z:p.1=f q.1/\RD K H p.2 q.2):∀ {kvs:List (DK×D)} {xs:List (κ×V)},v7 K H f kvs xs->v7 K H f (kvs++[p]) (xs++[q])
  | _,_,.nil => .cons z .nil
  | _,_,.cons y r => .cons y (ahG z r)
theorem a5P (hf:∀ a b,f a=f b->a=b) {k:κ} (rd:RD K H d v) {xs:List (κ×V)} (t:v7 K H f kvs xs):v7 K H f (dR kvs (f k) d) (putK xs k v):=by
  unfold dR putK;rw [a9Y,arM hf t];split
  . refine am2 (fun p q ⟨h1,h2⟩=>?_) t;by_cases c:q.1=k
    . rw [if_pos (show p.1=f k by rw [h1,c]),if_pos c];exact ⟨h1,rd⟩
    . rw [if_neg (show ¬ p.1=f k from fun z=>c (hf _ _ (h1.symm.trans z))),if_neg c];exact ⟨h1,h2⟩
  . exact ahG (p:=(f k,d)) (q:=(k,v)) ⟨rfl,rd⟩ t
end
theorem pO (a b:Key) (h:(Sum.inl a:DK) = .inl b):a=b:=by cases h;rfl
theorem nR (a b:List Key) (h:(Sum.inr a:DK) = .inr b):a=b:=by cases h;rfl
noncomputable def wR (x y:D) (G:Gp) (P:Addr->Bool->List (DK×D)->DK->Prop):Prop:=match x with
  | .ref a=>(match G a,a0G y with
    | some (.bQ t kvs),some k=>tG k=t/\P a t kvs k
    | _,_=>False)
  | _=>False
noncomputable def aaK (K:Fg) (H:Hp) (a:Addr) (vy:V) (kvs:List (DK×D)) (k:DK):Prop :=
  (∃ k' xs,k = .inl k'/\H a=some (.dK xs)/\v7 K H .inl kvs xs/\vy=kV k')∨∃ ks xs b,k = .inr ks/\H a=some (.dT xs)/\v7 K H .inr kvs xs/\vy = .ref b/\H b=some (.tup (ks.map kV))
theorem af5 {K:Fg} {k:DK} (ry:RD K H y vy) (e:a0G y=some k):(∃ k',k = .inl k'/\vy=kV k')∨∃ ks b,k = .inr ks/\vy = .ref b/\H b=some (.tup (ks.map kV)):=by
  cases ry with
  | int i=>cases e;exact .inl ⟨_,rfl,rfl⟩
  | str x=>cases e;exact .inl ⟨_,rfl,rfl⟩
  | @tup a xs ds hq r e0 =>
    have e':(match aaJ ds with
      | some ks=>some (Sum.inr ks:DK)
      | none=>none)=some k:=e
    split at e'
    . rename_i ks e1;cases e';have:=ahF r e1;subst this;exact .inr ⟨ks,a,rfl,rfl,e0⟩
    . cases e'
  | _=>cases e
theorem wU {K:Fg} {P:Addr->Bool->List (DK×D)->DK->Prop} (rx:RD K H x vx) (ry:RD K H y vy) (g:HR K H G) (h:wR x y G P) :
    ∃ a kvs k,x = .ref a/\vx = .ref a/\G a=some (.bQ (tG k) kvs)/\a0G y=some k/\P a (tG k) kvs k/\aaK K H a vy kvs k:=by
  unfold wR at h;split at h
  . rename_i a;split at h
    . rename_i t kvs k e1 e2;obtain ⟨rfl,h⟩:=h;cases rx;refine ⟨a,kvs,k,rfl,rfl,e1,e2,h,?_⟩;rcases g a _ e1 with ⟨z,xs,e3,r⟩ | ⟨z,xs,e3,r⟩
      . rcases af5 ry e2 with ⟨k',rfl,rfl⟩ | ⟨ks,b,rfl,_⟩
        . exact .inl ⟨k',xs,rfl,e3,r,rfl⟩
        . cases z
      . rcases af5 ry e2 with ⟨k',rfl,rfl⟩ | ⟨ks,b,rfl,rfl,eb⟩
        . cases z
        . exact .inr ⟨ks,xs,b,rfl,e3,r,rfl,eb⟩
    . exact h.elim
  . exact h.elim
theorem aaK.get {K:Fg} {k:DK} (h:aaK K H a vy kvs k):(∀ d,aK kvs k=some d->∃ v,a3Q H a vy (some v)/\RD K H d v)/\(aK kvs k=none->a3Q H a vy none):=by
  rcases h with ⟨k',xs,rfl,e,r,rfl⟩ | ⟨ks,xs,b,rfl,e,r,rfl,eb⟩
  . have z:=val_two pO (k:=k') r;exact ⟨fun d e2=>(z.1 d e2).elim fun v q=>⟨v,by rw [← q.1];exact .k e,q.2⟩,fun e2=>by rw [← z.2 e2];exact .k e⟩
  . have z:=val_two nR (k:=ks) r;exact ⟨fun d e2=>(z.1 d e2).elim fun v q=>⟨v,by rw [← q.1];exact .t e eb,q.2⟩,fun e2=>by rw [← z.2 e2];exact .t e eb⟩
theorem aaK.any {K:Fg} {k:DK} (h:aaK K H a vy kvs k):∃ o,a3Q H a vy o/\o.isSome=(aK kvs k).isSome/\∀ d v,RD K H d v->RD K H ((aK kvs k).getD d) (o.getD v):=by
  have z:=h.get;cases e:aK kvs k with
  | none=>exact ⟨none,z.2 e,rfl,fun d v r=>r⟩
  | some d=>obtain ⟨v,g,r⟩:=z.1 d e;exact ⟨some v,g,rfl,fun _ _ _=>r⟩
theorem aaK.put {K:Fg} {k:DK} (g:HR K H G) (h:aaK K H a vy kvs k) (rv:RD K H d v) (hl:kvs.length < sizeLine):∃ H',ajY H a vy v H'/\Ts H H'/\HR K H' (aL G a (.bQ (tG k) (dR kvs k d))):=by
  rcases h with ⟨k',xs,rfl,e,r,rfl⟩ | ⟨ks,xs,b,rfl,e,r,rfl,eb⟩
  . have tt:Ts H (upd H a (.dK (putK xs k' v))) := .turn e (fun _ z=>nomatch z) (fun _ _ z=>nomatch z);exact ⟨_,.k e (by rw [← r.length];exact hl),tt,g.turn (u := .bQ false _) tt (.inl ⟨rfl,_,aJ,(a5P pO rv r).imp fun _ _ q=>⟨q.1,q.2.mono tt⟩⟩)⟩
  . have tt:Ts H (upd H a (.dT (putK xs ks v))) := .turn e (fun _ z=>nomatch z) (fun _ _ z=>nomatch z);exact ⟨_,.t e eb (by rw [← r.length];exact hl),tt,g.turn (u := .bQ true _) tt (.inr ⟨rfl,_,aJ,(a5P nR rv r).imp fun _ _ q=>⟨q.1,q.2.mono tt⟩⟩)⟩
noncomputable def zQ (G:Gp) (a:Addr):Option (Bool×List (DK×D)):=match G a with
  | some (.bQ t kvs)=>some (t,kvs)
  | some (.rdc _ t kvs)=>some (t,kvs)
  | _=>none
theorem ahH {K:Fg} {t:Bool} (g:HR K H G) (e:zQ G a=some (t,kvs)) :
    (t=false/\∃ xs:List (Key×V),Rd H a (.dK xs)/\v7 K H .inl kvs xs)∨(t=true/\∃ xs:List (List Key×V),Rd H a (.dT xs)/\v7 K H .inr kvs xs):=by
  unfold zQ at e;split at e
  . rename_i t' kvs' q;cases e;rcases g a _ q with ⟨z,xs,e2,tw⟩ | ⟨z,xs,e2,tw⟩
    . exact .inl ⟨z,xs,.inl e2,tw⟩
    . exact .inr ⟨z,xs,.inl e2,tw⟩
  . rename_i o t' kvs' q;cases e;rcases g a _ q with ⟨z,xs,e2,tw⟩ | ⟨z,xs,e2,tw⟩
    . exact .inl ⟨z,xs,.inr ⟨o,e2⟩,tw⟩
    . exact .inr ⟨z,xs,.inr ⟨o,e2⟩,tw⟩
  . cases e
noncomputable def aaL (x y:D) (G:Gp) (P:List (DK×D)->DK->Prop):Prop:=match x with
  | .ref a=>(match zQ G a,a0G y with
    | some (t,kvs),some k=>tG k=t/\P kvs k
    | _,_=>False)
  | _=>False
theorem aoK {K:Fg} {P:List (DK×D)->DK->Prop} (rx:RD K H x vx) (ry:RD K H y vy) (g:HR K H G) (h:aaL x y G P) :
    ∃ a kvs k,x = .ref a/\vx = .ref a/\P kvs k/\∀ d,aK kvs k=some d->∃ v,a3Q H a vy (some v)/\RD K H d v:=by
  unfold aaL at h;split at h
  . rename_i a;split at h
    . rename_i t kvs k e1 e2;obtain ⟨rfl,h⟩:=h;cases rx;refine ⟨a,kvs,k,rfl,rfl,h,fun d ed=>?_⟩;rcases ahH g e1 with ⟨z,xs,e3,r⟩ | ⟨z,xs,e3,r⟩
      . rcases af5 ry e2 with ⟨k',rfl,rfl⟩ | ⟨ks,b,rfl,_⟩
        . obtain ⟨v,e4,rv⟩:=(val_two pO (k:=k') r).1 d ed;exact ⟨v,.inl ⟨xs,k',e3,rfl,e4.symm⟩,rv⟩
        . cases z
      . rcases af5 ry e2 with ⟨k',rfl,rfl⟩ | ⟨ks,b,rfl,rfl,eb⟩
        . cases z
        . obtain ⟨v,e4,rv⟩:=(val_two nR (k:=ks) r).1 d ed;exact ⟨v,.inr ⟨xs,ks,b,e3,rfl,eb,e4.symm⟩,rv⟩
    . exact h.elim
  . exact h.elim
noncomputable def mX:R3:=fun x y G R=>aaL x y G fun kvs k=>match aK kvs k with
  | some d=>R d G
  | none=>False
noncomputable def ahI:R3:=fun x y G R=>wR y x G fun _ _ kvs k=>R (.bl (aK kvs k).isSome) G
noncomputable def aaM:R3:=fun x y G R=>wR y x G fun _ _ kvs k=>R (.bl (!(aK kvs k).isSome)) G
section
variable {X:Cx} {o i value e f:Expr} {to ti tv te tf:cL} {pos pos' apos cpos:Pos}
theorem aJG (hu:X.A.units+64 < cLine) (ho:cR X o to) (hi:cR X i ti) (hs:aC1 i):cR X (.Subscript o i pos) (aG mX to ti):=by
  refine PE.imp (avY (by omega) ho hi hs) fun σ H Q h=>?_;obtain ⟨ρ,G,R,s,g,t,k⟩:=h;refine ⟨ρ,G,_,s,g,t,fun vx H1 x G1 t1 rx g1 t'=>?_⟩;refine ⟨ρ,G1,_,s.mono t1,g1,t',fun vy H2 y G2 t2 ry g2 t''=>?_⟩;obtain ⟨a,kvs,kk,rfl,rfl,q,dd⟩:=aoK (rx.mono t2) ry g2 t'';split at q
  . rename_i d e2;obtain ⟨v,gg,rv⟩:=dd d e2;exact ⟨a,v,rfl,gg,k v H2 d G2 (t1.trans t2) rv g2 q⟩
  . exact q.elim
theorem aJH (hu:X.A.units+64 < cLine):rA X (compareOp .In) ahI:=a70 fun pins s σ H x y vx vy u v G R Q I rx ry ru rv g q k=>by
  obtain ⟨a,kvs,kk,rfl,rfl,e1,_,q,dd⟩:=wU ry rx g q;obtain ⟨o,gg,eo,_⟩:=dd.any;obtain rfl:v=Value.ref a:=rv;exact aMD (by omega) I gg ru fun s' I'=>⟨.bl o.isSome,H,I',rfl,k _ H (.bl _) G (.refl H) (.bl _) g (by rw [eo];exact q)⟩
theorem aDR (hu:X.A.units+64 < cLine):rA X (compareOp .NotIn) aaM:=a70 fun pins s σ H x y vx vy u v G R Q I rx ry ru rv g q k=>by
  obtain ⟨a,kvs,kk,rfl,rfl,e1,_,q,dd⟩:=wU ry rx g q;obtain ⟨o,gg,eo,_⟩:=dd.any;obtain rfl:v=Value.ref a:=rv;exact avW (by omega) I gg ru fun s' I'=>⟨.bl (!o.isSome),H,I',rfl,k _ H (.bl _) G (.refl H) (.bl _) g (by rw [eo];exact q)⟩
noncomputable def am3 (x y v:D) (F:fX) (ρ:aO) (G:Gp):Prop:=wR x y G fun a t kvs k=>kvs.length < sizeLine/\F.nx ρ (aL G a (.bQ t (dR kvs k v)))
noncomputable def a3V (to ti tv:cL):bJ:=fun F ρ G=>tv ρ G fun v G1=>to ρ G1 fun x G2=>ti ρ G2 fun y G3=>am3 x y v F ρ G3
theorem aDS (hu:X.A.units+64 < cLine) (ho:cR X o to) (hi:cR X i ti) (hv:cR X value tv) (hs:swapsWith value (some (.Subscript o i pos')) pos.line X.env=pure false):PS3 X (.Assign [.Subscript o i pos'] value pos) (a3V to ti tv):=by
  refine PS.imp (avZ (by omega) ho hi hv hs) fun F σ H h=>?_;obtain ⟨ρ,G,E,s,g,t,u⟩:=h;refine ⟨ρ,G,_,s,g,t,fun v H1 d G1 t1 rv g1 t'=>?_⟩;refine ⟨ρ,G1,_,s.mono t1,g1,t',fun vx H2 x G2 t2 rx g2 t''=>?_⟩;refine ⟨ρ,G2,_,s.mono (t1.trans t2),g2,t'',fun vy H3 y G3 t3 ry g3 t4=>?_⟩;obtain ⟨a,kvs,kk,rfl,rfl,e1,_,⟨hl,q⟩,dd⟩:=wU (rx.mono t3) ry g3 t4;obtain ⟨H4,pp,tt,g4⟩:=dd.put g3 (rv.mono (t2.trans t3)) hl;exact ⟨a,H4,rfl,pp,u.nx ρ _ σ _ (s.mono (((t1.trans t2).trans t3).trans tt)) g4 q⟩
noncomputable def w6 (x:D) (G:Gp):Prop:=match x with
  | .ref a=>(match G a with
    | some (.bQ _ _)=>True
    | _=>False)
  | _=>False
theorem adV {K:Fg} (rx:RD K H x vx) (g:HR K H G) (h:w6 x G):∃ a,x = .ref a/\vx = .ref a/\IsD H a:=by
  unfold w6 at h;split at h
  . rename_i a;split at h
    . rename_i t kvs e;cases rx;rcases g a _ e with ⟨_,xs,e2,_⟩ | ⟨_,xs,e2,_⟩
      . exact ⟨a,rfl,rfl,.inl ⟨xs,.inl e2⟩⟩
      . exact ⟨a,rfl,rfl,.inr ⟨xs,.inl e2⟩⟩
    . exact h.elim
  . exact h.elim
noncomputable def nT (to te tf:cL):cL:=fun ρ G R=>to ρ G fun x G1=>w6 x G1/\te ρ G1 fun y G2=>tf ρ G2 fun z G3=>wR x y G3 fun _ _ kvs k=>R ((aK kvs k).getD z) G3
theorem ax3 (hu:X.A.units+64 < cLine) (ho:cR X o to) (he:cR X e te) (hf:cR X f tf) (m:M2 X o "get" apos e f cpos):cR X (.Call (.Attribute o "get" apos) [e,f] [] cpos) (nT to te tf):=by
  refine PE.imp (aq9 (by omega) ho he hf m) fun σ H Q h=>?_;obtain ⟨ρ,G,R,s,g,t,k⟩:=h;refine ⟨ρ,G,_,s,g,t,fun vx H1 x G1 t1 rx g1 t'=>?_⟩;obtain ⟨isd,t'⟩:=t';obtain ⟨a,rfl,rfl,ia⟩:=adV rx g1 isd;refine ⟨a,rfl,ia,?_⟩;refine ⟨ρ,G1,_,s.mono t1,g1,t',fun vy H2 y G2 t2 ry g2 t''=>?_⟩;refine ⟨ρ,G2,_,s.mono (t1.trans t2),g2,t'',fun vz H3 z G3 t3 rz g3 t4=>?_⟩;obtain ⟨a',kvs,kk,e,_,e1,_,q,dd⟩:=wU (rx.mono (t2.trans t3)) (ry.mono t3) g3 t4;cases e;obtain ⟨o,gg,eo,hd⟩:=dd.any;exact ⟨o,gg,k _ H3 _ G3 ((t1.trans t2).trans t3) (hd z vz rz) g3 q⟩
end
end
variable {v:Value}{o:Expr}{Q:Value->Shared->Prop}{to:cL}{apos cpos:Pos}
section
variable {p:Addr×Value}
section
variable {prog:Program} {w:World} {K:Type} [DecidableEq K] {knd:HeapKind prog w K} {A:Around} {E:Value->Shared->Prop} {s:Shared} {d a:Addr} {k:K} {xs:List (K×Addr×Value)}
theorem aDU {xs:List (K×Addr×Value)} {o:Obj} {es ep} (hkey:knd.is s.heap k a) (ho:s.heap.get? d=some o) (hc:o.ExactDict) (hd:o.data = .dict es ep) (he:es.toList=xs.map (entryOfKey knd)) (his:∀ x∈xs,knd.is s.heap x.1 x.2.1) (hn:(xs.map (·.1)).Nodup) (hno:∀ (j:Nat) (p:Addr×Value),xs[j]?≠some (k,p)) :
    (s.heap.update d (Obj.mapDictKeys (·.push ⟨knd.hash k,.ref a,v⟩))).DictOfH knd d (storedH xs k a v):=by
  have nk:k ∉ xs.map (·.1):=not_mem_keys_of_get hno;refine ⟨_,_,ep+1,vh _ ho (Obj.isFreed_of_dict (Obj.data_mapDictKeys hd _)),hc.mapDictKeys _,Obj.data_mapDictKeys hd _,?_,?_,?_⟩ <;> rw [storedH_new (atKey_none_of_get hno)]
  . simp [he,entryOfKey]
  . intro x hx;rcases oh.mp hx with hx | hx
    . exact knd.keeps (his x hx) ho hd (iz.update ..)
    . rw [jt] at hx;subst hx;exact knd.keeps hkey ho hd (iz.update ..)
  . rw [jk,qy];refine ⟨hn,by simp,fun x hx y hy e=>?_⟩;rw [List.map_singleton,jt] at hy;exact nk (by rw [← show y=k from hy,← e];exact hx)
theorem aDV (hu:knd.room A) (hkey:knd.is s.heap k a) (hm:s.heap.DictOfH knd d xs) (hsz:xs.length<=sizeLine)
    (h1:∀ p,atKey xs k=some p->Q p.2 { s with toks:=s.toks+knd.draws k })
    (h2:atKey xs k=none->∀ h',h'.DictOfH knd d (storedH xs k a v)->iz d s.heap h'->Q v { s with heap:=h',toks:=s.toks+knd.draws k }):wpAny (model prog w) A (dictSetDefault d (.ref a) v) Q E s:=by
  obtain ⟨o,es,ep,ho,hc,hd,he,his,hn⟩:=hm;unfold dictSetDefault;refine wpAny_holding (aj (knd.pyHash hu hkey (aj (wpAny_dictFind_heap (s:={ s with toks:=s.toks+knd.draws k }) hu hkey ho hd he his hn ?_ ?_))))
  . intro hno;refine aj (wpAny_rule (aj (wpAny_updateDictKeys (s:={ s with toks:=s.toks+knd.draws k }) ho hd (aq (h2 (atKey_none_of_get hno) _ (aDU hkey ho hc hd he his hn hno) (iz.update ..))) (hz:=by have e:=size_of_entries he;omega))))
  . intro j p hj;refine aj (wpAny_dictEntries (s:={ s with toks:=s.toks+knd.draws k }) ho hd ?_);rw [entry_at he j,hj];exact aj (wpAny_rule (aq (h1 p (atKey_of_get hn hj))))
theorem acL (hu:knd.room A.in1) (hkey:knd.is s.heap k a) (hs:(d == sysModules)=false) (hm:s.heap.DictOfH knd d xs) (hsz:xs.length<=sizeLine)
    (h1:∀ p,atKey xs k=some p->Q p.2 { s with toks:=s.toks+knd.draws k })
    (h2:atKey xs k=none->∀ h',h'.DictOfH knd d (storedH xs k a v)->iz d s.heap h'->Q v { s with heap:=h',toks:=s.toks+knd.draws k }):wpAny (model prog w) A (call (.builtin "dict.setdefault") [.ref d,.ref a,v]) Q E s:=by
  refine call_meetsIn (S:=fun A' R s'=>knd.room A'.in1/\s'=s/\(∀ p,atKey xs k=some p->R (.ok (.ret p.2)) { s with toks:=s.toks+knd.draws k })/\(atKey xs k=none->∀ h',h'.DictOfH knd d (storedH xs k a v)->iz d s.heap h'->R (.ok (.ret v)) { s with heap:=h',toks:=s.toks+knd.draws k })) PySem.F.slot_dict_setdefault hm.typeIs PySem.F.entry_dict_setdefault (PySem.F.args_dict_setdefault_3 _ _ _) (.of_wp fun A' R s' ⟨hu',e,g1,g2⟩=>?_) ⟨hu,rfl,h1,h2⟩;subst e;unfold Builtin.«dict.setdefault»;refine aj ?_;unfold Builtin.Dict.keyAndDefault;refine aj (wpAny_notOrdered_dict hm.typeIs ?_);show wpAny _ _ (pure (d,Value.ref a,some v)) _ _ _;refine aq ?_;show wpAny _ _ (if (d == sysModules)=true then _ else (dictSetDefault d (.ref a) v >>= _)) _ _ _;rw [if_neg (by rw [hs];exact jm)];exact aj (aDV hu' hkey hm hsz (fun p hp=>aq ⟨p.2,rfl,g1 p hp⟩) fun hn h' hm' hs'=>aq ⟨v,rfl,g2 hn h' hm' hs'⟩)
noncomputable def pZ (xs:List (K×Addr×Value)) (k:K):List (K×Addr×Value):=xs.filter fun x=>decide (x.1≠k)
theorem ahJ {xs:List (K×Addr×Value)} (hn:(xs.map (·.1)).Nodup) (hj:xs[j]?=some (k,p)):pZ xs k=xs.eraseIdx j:=by
  induction xs generalizing j with
  | nil=>simp at hj
  | cons x r ih =>
    rw [dj,jg] at hn;cases j with
    | zero =>
      simp at hj;subst hj
      have:∀ y∈r,decide (y.1≠k)=true:=fun y hy=>by
        simp only [decide_eq_true_eq];intro e;exact hn.1 (gw.mpr ⟨y,hy,e⟩)
      rw [pZ,mz,if_neg (by simp),a0a.mpr this];rfl
    | succ j =>
      have hj':r[j]?=some (k,p):=by simpa using hj
      have ne:x.1≠k:=fun e=>hn.1 (by rw [e];exact gw.mpr ⟨(k,p),je hj',rfl⟩);have:=ih hn.2 hj';simp [pZ,mz,ne] at this ⊢;exact this
theorem ax4 {Q:Option DictEntry->Shared->Prop} (hu:knd.room A) (hkey:knd.is s.heap k a) (hm:s.heap.DictOfH knd d xs) (hsz:xs.length<=sizeLine) (hp:atKey xs k=some p)
    (h:∀ h' e,e.key = .ref p.1->e.val=p.2->h'.DictOfH knd d (pZ xs k)->iz d s.heap h'->Q (some e) { s with heap:=h',toks:=s.toks+knd.draws k }):wpAny (model prog w) A (Builtin.Dict.takeOut d (.ref a)) Q E s:=by
  obtain ⟨o,es,ep,ho,hc,hd,he,his,hn⟩:=hm;unfold Builtin.Dict.takeOut;refine wpAny_holding (aj (knd.pyHash hu hkey (aj (wpAny_dictFind_heap (s:={ s with toks:=s.toks+knd.draws k }) hu hkey ho hd he his hn ?_ ?_))))
  . intro hno;rw [atKey_none_of_get hno] at hp;cases hp
  . intro j q hj;rw [atKey_of_get hn hj] at hp;cases hp;refine aj (wpAny_dictEntries (s:={ s with toks:=s.toks+knd.draws k }) ho hd ?_);rw [entry_at he j,hj];refine aj (wpAny_updateDictKeys (s:={ s with toks:=s.toks+knd.draws k }) ho hd (aq (h _ _ rfl rfl ⟨_,_,ep+1,vh _ ho (Obj.isFreed_of_dict (Obj.data_mapDictKeys hd _)),hc.mapDictKeys _,Obj.data_mapDictKeys hd _,?_,?_,?_⟩ (iz.update ..))) (hz:=by have e:=size_of_entries he;omega) (hf:=?_))
    . rw [ahJ hn hj];have hjl:j < es.size:=by rw [size_of_entries he];exact (fj.mp hj).1
      have em:∀ (l:List (K×Addr×Value)) (j:Nat),(l.map (entryOfKey knd)).eraseIdx j=(l.eraseIdx j).map (entryOfKey knd):=by
        intro l
        induction l with
        | nil=>intro j;rfl
        | cons x r ih=>intro j;cases j with
          | zero=>rfl
          | succ j=>simp [ih]
      simp [Array.eraseIdxIfInBounds,hjl,he,em]
    . intro x hx;exact knd.keeps (his x (uq.mp hx).1) ho hd (iz.update ..)
    . exact (a0b.map _).nodup hn
    . show (es.eraseIdxIfInBounds j).size<=es.size+1;unfold Array.eraseIdxIfInBounds;split <;> simp <;> omega
theorem aDW (hu:knd.room A.in1) (hkey:knd.is s.heap k a) (hm:s.heap.DictOfH knd d xs) (hsz:xs.length<=sizeLine) (hp:atKey xs k=some p)
    (h:∀ h',h'.DictOfH knd d (pZ xs k)->iz d s.heap h'->Q p.2 { s with heap:=h',toks:=s.toks+knd.draws k }):wpAny (model prog w) A (call (.builtin "dict.pop") [.ref d,.ref a]) Q E s:=by
  refine call_meetsIn (S:=fun A' R s'=>knd.room A'.in1/\s'=s/\∀ h',h'.DictOfH knd d (pZ xs k)->iz d s.heap h'->R (.ok (.ret p.2)) { s with heap:=h',toks:=s.toks+knd.draws k }) PySem.F.slot_dict_pop hm.typeIs PySem.F.entry_dict_pop (PySem.F.args_dict_pop_2 _ _) (.of_wp fun A' R s' ⟨hu',e,g⟩=>?_) ⟨hu,rfl,h⟩;subst e;have hne:xs≠[]:=fun e=>by subst e;cases hp
  obtain ⟨o,es,ep,ho,hc,hd,he,his,hn⟩:=id hm;unfold Builtin.«dict.pop»;refine aj ?_;unfold Builtin.Dict.keyAndDefault;refine aj (wpAny_notOrdered_dict hm.typeIs ?_);show wpAny _ _ (pure (d,Value.ref a,none)) _ _ _;refine aq ?_
  have e0:es.isEmpty=false:=by
    have:=size_of_entries he;rw [Array.isEmpty_eq_false_iff];intro z;subst z;exact hne (List.length_eq_zero_iff.mp this.symm)
  show wpAny _ _ (dictEntries d >>= _) _ _ _;refine aj (wpAny_dictEntries ho hd ?_);rw [e0];refine aj (aq ?_);show wpAny _ _ (Builtin.Dict.takeOut d (Value.ref a) >>= _) _ _ _;refine aj (ax4 hu' hkey hm hsz hp fun h' e e1 e2 dd hs=>?_);refine aj (wpAny_letGo (aq ⟨_,rfl,?_⟩));rw [e2];exact g h' dd hs
end
theorem KT.drop {kvs:List (List Key×V)} {xs:List (List Key×Addr×Value)} (r:KT H kvs xs) (k:List Key):KT H (zN kvs k) (pZ xs k):=by
  unfold zN pZ
  induction r with
  | nil=>exact .nil
  | @cons p q ps qs h t ih =>
    rw [mz,mz];by_cases e:p.1=k
    . rw [if_neg (by simp [e]),if_neg (by simp [h.1.symm.trans e])];exact ih
    . rw [if_pos (by simp [e]),if_pos (by simp;exact fun z=>e (h.1.trans z))];exact .cons h ih
theorem a5Q {κ:Type} [DecidableEq κ] {K:Fg} {H:Hp} {f:κ->DK} (hf:∀ a b,f a=f b->a=b) {k:κ}:∀ {kvs:List (DK×D)} {xs:List (κ×V)},v7 K H f kvs xs->v7 K H f (bI kvs (f k)) (zN xs k)
  | _,_,.nil => .nil
  | p :: kvs,q :: xs,.cons h r=>by
    unfold bI zN;rw [mz,mz];by_cases c:q.1=k
    . rw [if_neg (by simp [show p.1=f k by rw [h.1,c]]),if_neg (by simp [c])];exact a5Q hf r
    . rw [if_pos (by simp;exact fun z=>c (hf _ _ (h.1.symm.trans z))),if_pos (by simp [c])];exact .cons h (a5Q hf r)
noncomputable def akD (r:RM3) (to:cL) (t:yH):cL:=fun ρ G R=>to ρ G fun x G1=>w6 x G1/\t ρ G1 fun xs G2=>r x xs G2 R
section
variable {X:Cx}
theorem aJI {t:yH} {name:Str} {id:String} {r3:RM3} (slot:Slot "dict" name id) (hty:typeOf (.builtin id)=pure (.type "method_descriptor")) (hm:a8W X id r3) (ho:cR X o to) (ha:PA3 X (e :: es) t)
    (hbase:attributeBase o name X.env (eval o X.env)=eval o X.env)
    (hfew:((backTo cpos (starEach (e :: es) X.env)).all (fun x=>!x.1)&&(backToKw cpos (keywordEach [] X.env)).all (fun x=>x.1.isSome)
      && decide ((e :: es).length+([]:List Keyword).length+(if ([]:List Keyword).isEmpty then 0 else 1) < 30))=true)
    (hline:(apos.endLine == cpos.line)=true) (hs:starEach (e :: es) X.env=(false,eval e X.env) :: starEach es X.env) (hplain:(backTo cpos (starEach es X.env)).any (·.1)=false) :
    cR X (.Call (.Attribute o name apos) (e :: es) [] cpos) (akD r3 to t):=by
  intro pins s σ H Q I h;obtain ⟨ρ,G,R,sr,g,q,kk⟩:=h;refine wpAny_Call_method_late hbase hfew hline rfl (f9 (ho pins s σ H (fun vx H1=>Ts H H1/\∃ x G1,RD X.K H1 x vx/\HR X.K H1 G1/\w6 x G1/\t ρ G1 fun xs G2=>r3 x xs G2 R) I ⟨ρ,G,_,sr,g,q,fun v H1 x G1 t1 r1 g1 q1=>⟨t1,x,G1,r1,g1,q1⟩⟩) fun v s1 ⟨vx,H1,I1,r1,t1,x,G1,rx,g1,ty,q1⟩=>?_);obtain ⟨a,rfl,rfl,ia⟩:=adV rx g1 ty;obtain rfl:v=Value.ref a:=r1;obtain ⟨h1,h2,_⟩:=a6W I1 ia;refine ⟨"dict",id,PySem.F.plainAttrs_dict,slot,hty,h1,h2,?_⟩;have hA:=ha cpos pins s1 σ H1 (fun vs H2=>Ts H1 H2/\∃ xs G2,cN X.K H2 xs vs/\HR X.K H2 G2/\r3 (.ref a) xs G2 R) I1 ⟨ρ,G1,_,sr.mono t1,g1,q1,fun vs H2 xs G2 t2 r2 g2 q2=>⟨t2,xs,G2,r2,g2,q2⟩⟩;rw [hs] at hA ⊢;refine Calls.callWith_builtin (by show (false || (backTo cpos (starEach es X.env)).any (·.1))=false;rw [hplain] <;> rfl) (Calls.evalArgs_plain ?_);exact f9 hA fun us s2 ⟨vs,H2,I2,r2,t2,xs,G2,rs,g2,q2⟩=>hm pins s2 σ H2 (.ref a) xs (.ref a) vs (.ref a) us G2 R Q I2 (.ref a) rs rfl r2 g2 q2 fun v H' d G' t3=>kk v H' d G' ((t1.trans t2).trans t3)
noncomputable def a8C:RM3:=fun x xs G R=>match xs with
  | [y,z]=>wR x y G fun a t kvs k=>t=true/\kvs.length < sizeLine/\(match aK kvs k with
    | some d=>R d G
    | none=>R z (aL G a (.bQ t (dR kvs k z))))
  | _=>False
theorem aJJ (hu:X.A.units+64 < cLine):a8W X "dict.setdefault" a8C:=by
  intro pins s σ H x xs vx vs u us G R Q I rx rs ru rv g q k;unfold a8C at q;split at q
  case h_2=>exact q.elim
  case h_1 y z =>
    cases rs with
    | cons ry rs =>
    cases rs with
    | @cons _ vz _ _ rz rs =>
    cases rs;cases rv with
    | cons rvy rv =>
    cases rv with
    | cons rvz rv =>
    cases rv;obtain ⟨a,kvs,kk,rfl,rfl,e1,_,⟨ht,hl,q⟩,dd⟩:=wU rx ry g q;obtain rfl:u=Value.ref a:=ru;rcases dd with ⟨k',ys,rfl,_⟩ | ⟨ks,ys,b,rfl,e,r,rfl,eb⟩
    . cases ht
    . cases rvy;obtain ⟨z1,hd,ws,rel,dc⟩:=agK I.hok e;have hw:=val_two nR (k:=ks) r;have hv:=rel.val ks;have lw:ws.length<=sizeLine:=by rw [← Paired.length rel];exact z1
      refine acL (tupleKind_room_in1 (by omega)) (a09 I.hok eb) hd dc lw (fun p hp=>?_) fun hn h' dc' hs=>?_
      . rw [hp] at hv;cases e2:aK kvs (.inr ks) with
        | none=>rw [hw.2 e2] at hv;exact (show False from hv).elim
        | some d =>
          rw [e2] at q;obtain ⟨v,e3,rd⟩:=hw.1 d e2;rw [e3] at hv;exact ⟨v,H,I.tok _,hv,k v H d G (.refl H) rd g q⟩
      . rw [hn] at hv;cases e2:aK kvs (.inr ks) with
        | some d =>
          obtain ⟨v,e3,rd⟩:=hw.1 d e2;rw [e3] at hv;exact (show False from hv).elim
        | none =>
          rw [e2] at q;have tt:Ts H (upd H a (.dT (putK ys ks vz))) := .turn e (fun _ z=>nomatch z) (fun _ _ z=>nomatch z);obtain ⟨q0,es,ep,hq,g2,g3,g4,_,g5⟩:=dc';have hl2:∀ v:V,(putK ys ks v).length<=sizeLine:=fun v=>by have:=a08 ys ks v;rw [← r.length] at this;omega
          refine ⟨_,_,a1Z (t':=_) (ob := .dT (putK ys ks vz)) I (by rw [e];exact True.intro) hs ⟨q0,hq⟩ ⟨hl2 _,hd,_,(rel.put ks eb rvz).keeps fun c zs ec=>?_,q0,es,ep,hq,g2,g3,g4,g5⟩,rvz,k _ _ z _ tt (rz.mono tt) (g.turn (u := .bQ true _) tt (.inr ⟨rfl,_,aJ,(a5P nR rz r).imp fun _ _ q=>⟨q.1,q.2.mono tt⟩⟩)) q⟩;rw [aX (apQ ec e (fun z=>nomatch z))];exact ec
noncomputable def a76:RM3:=fun x xs G R=>match xs with
  | [y]=>wR x y G fun a t kvs k=>(match aK kvs k with
    | some d=>R d (aL G a (.bQ t (bI kvs k)))
    | none=>False)
  | _=>False
theorem aDX (hu:X.A.units+64 < cLine):a8W X "dict.pop" a76:=by
  intro pins s σ H x xs vx vs u us G R Q I rx rs ru rv g q k
  match xs,rs,q with
  | [],_,q=>exact q.elim
  | _ :: _ :: _,_,q=>exact q.elim
  | [y],.cons ry .nil,q =>
    cases rv with
    | cons rvy rv =>
    cases rv;obtain ⟨a,kvs,kk,rfl,rfl,e1,_,q,dd⟩:=wU rx ry g q;obtain rfl:u=Value.ref a:=ru;split at q
    . rename_i d e2;rcases dd with ⟨k',ys,rfl,e,r,rfl⟩ | ⟨ks,ys,b,rfl,e,r,rfl,eb⟩
      . obtain ⟨v,e3,rd⟩:=(val_two pO (k:=k') r).1 d e2;have tt:Ts H (upd H a (.dK (zN ys k'))) := .turn e (fun _ z=>nomatch z) (fun _ _ z=>nomatch z);exact aHM I e rvy e3 (.inl rfl) fun w' s' I' rw'=>⟨v,_,I',rw',k v _ d _ tt (rd.mono tt) (g.turn (u := .bQ false _) tt (.inl ⟨rfl,_,aJ,(a5Q pO r).imp fun _ _ q=>⟨q.1,q.2.mono tt⟩⟩)) q⟩
      . obtain ⟨v,e3,rd⟩:=(val_two nR (k:=ks) r).1 d e2;cases rvy;obtain ⟨z1,hd,ws,rel,dc⟩:=agK I.hok e;have hv:=rel.val ks;rw [e3] at hv;have lw:ws.length<=sizeLine:=by rw [← Paired.length rel];exact z1
        cases hp:atKey ws ks with
        | none=>rw [hp] at hv;exact (show False from hv).elim
        | some p =>
          rw [hp] at hv;have tt:Ts H (upd H a (.dT (zN ys ks))) := .turn e (fun _ z=>nomatch z) (fun _ _ z=>nomatch z);refine aDW (tupleKind_room_in1 (by omega)) (a09 I.hok eb) dc lw hp fun h' dc' hs=>?_;obtain ⟨q0,es,ep,hq,g2,g3,g4,_,g5⟩:=dc';refine ⟨v,_,a1Z (t':=_) (ob := .dT (zN ys ks)) I (by rw [e];exact True.intro) hs ⟨q0,hq⟩ ⟨jj (a9Z ys ks) z1,hd,_,(rel.drop ks).keeps fun c zs ec=>?_,q0,es,ep,hq,g2,g3,g4,g5⟩,hv,k v _ d _ tt (rd.mono tt) (g.turn (u := .bQ true _) tt (.inr ⟨rfl,_,aJ,(a5Q nR r).imp fun _ _ q=>⟨q.1,q.2.mono tt⟩⟩)) q⟩;rw [aX (apQ ec e (fun z=>nomatch z))];exact ec
    . exact q.elim
noncomputable def a77:List D->Gp->j4->Prop:=fun xs G R=>match xs with
  | [.ref a]=>(match G a with
    | some (.bQ false kvs)=>R (.int kvs.length) G
    | _=>False)
  | _=>False
theorem aDY:cU X (.builtin "len") a77:=by
  intro pins s σ H xs vs us G R Q I rx rv g q k;unfold a77 at q;split at q
  . rename_i a;split at q
    . rename_i kvs e1;cases rx with
      | cons r1 rr =>
      cases rr;cases r1;cases rv with
      | cons rv rr =>
      cases rr;cases rv;rcases g a _ e1 with ⟨_,ys,e,r⟩ | ⟨z,_⟩
      . refine aHN I (.inl e) fun t s' I'=>⟨.int ys.length,H,I',⟨t,rfl⟩,k _ H (.int kvs.length) G (.refl H) (by rw [r.length];exact .int _) g q⟩
      . cases z
    . exact q.elim
  . exact q.elim
end
end
variable {vs:List Value}{l:Addr}{q:Array Nat}{B:Int}{ps:List (Int×Int)}
section
open PySem.W
variable {p:Array Nat}
section
variable {cmp:Nat->Nat->(Bool->Shared->Prop)->Shared->Prop} {I:Shared->Prop} {kf:Nat->Int}
noncomputable def ky (kf:Nat->Int) (p:Array Nat) (i:Nat):Int:=kf (p.getD i 0)
noncomputable def Up (kf:Nat->Int) (p:Array Nat) (k:Nat):Prop:=∀ i j,i<=j->j < k->ky kf p i<=ky kf p j
noncomputable def Down (kf:Nat->Int) (p:Array Nat) (k:Nat):Prop:=∀ i j,i < j->j < k->ky kf p j < ky kf p i
noncomputable def Asks (cmp:Nat->Nat->(Bool->Shared->Prop)->Shared->Prop) (I:Shared->Prop) (kf:Nat->Int) (n:Nat):Prop:=∀ i j C s,i < n->j < n->I s->(∀ s',I s'->C (decide (kf i < kf j)) s')->cmp i j C s
structure Pm (n:Nat) (p:Array Nat):Prop where
  size:p.size=n
  perm:p.toList.Perm (ji n)
theorem Pm.lt (h:Pm n p) (hi:i < n):p.getD i 0 < n:=by
  have hs:i < p.size:=by rw [h.size];exact hi
  have e:p.getD i 0=p[i]:=by simp [Array.getD,hs]
  rw [e];exact rm.mp (h.perm.mem_iff.mp (by simp))
theorem Pm.inj (h:Pm n p) (hi:i < n) (hj:j < n) (e:p.getD i 0=p.getD j 0):i=j:=by
  have hs:i < p.size:=by rw [h.size];exact hi
  have ht:j < p.size:=by rw [h.size];exact hj
  have nd:p.toList.Nodup:=(h.perm.nodup_iff).mpr List.nodup_range;have e1:p.getD i 0=p[i]:=by simp [Array.getD,hs]
  have e2:p.getD j 0=p[j]:=by simp [Array.getD,ht]
  rw [e1,e2] at e;have key:=qu.mp nd;have hs':i < p.toList.length:=by simpa using hs
  have ht':j < p.toList.length:=by simpa using ht
  rcases uf i j with c | c | c
  . exact absurd (by simpa using e) (key i j hs' ht' c)
  . exact c
  . exact absurd (by simpa using e.symm) (key j i ht' hs' c)
theorem a9J (h:p[i]?=q[j]?):p.getD i 0=q.getD j 0:=by
  rw [Array.getD_eq_getD_getElem?,Array.getD_eq_getD_getElem?,h]
theorem arN {k:Nat} (hn:n<=p.size) (hk:k < n):ky kf (kas_rev p 0 n) k=ky kf p (n - 1 - k):=by
  unfold ky kas_rev;have e:=getElem?_mirror_all (xs:=p) (i:=0) (j:=n) hn k;rw [if_pos ⟨lu _,hk⟩,Nat.zero_add] at e;rw [a9J e]
theorem Pm.rev {m:Nat} (h:Pm n p):Pm n (kas_rev p 0 m):=⟨by rw [kas_rev_size];exact h.size,((mirror_perm p 0 m _).toList).trans h.perm⟩
theorem Down.up (hn:n<=p.size) (h:Down kf p n):Up kf (kas_rev p 0 n) n:=fun i j hij hj=>by
  rw [arN hn (by omega),arN hn hj];by_cases c:i=j
  . subst c;exact wk _
  . exact Int.le_of_lt (h (n - 1 - j) (n - 1 - i) (by omega) (by omega))
theorem akE {n:Nat} (hc:Asks cmp I kf n) {p:Array Nat} (P:Pm n p) {Q:Nat->Shared->Prop}:∀ (f a:Nat) (s:Shared),1<=a->a+f<=n->Up kf p a->I s->(∀ m s',a<=m->m<=a+f->Up kf p m->(m < a+f->ky kf p m < ky kf p (m - 1))->I s'->Q m s')->(kas_asc p f a).kasWp cmp Q s
  | 0,a,s,h1,h2,u,i,h=>h a s (au _) (au _) u (fun z=>absurd z (kh _)) i
  | f+1,a,s,h1,h2,u,i,h=>by
    show cmp (p.getD a 0) (p.getD (a - 1) 0) _ s;refine hc _ _ _ s (P.lt (by omega)) (P.lt (by omega)) i fun s' i'=>?_;by_cases c:kf (p.getD a 0) < kf (p.getD (a - 1) 0)
    . rw [decide_eq_true c];dsimp only;rw [if_pos rfl];exact h a s' (au _) (by omega) u (fun _=>c) i'
    . rw [decide_eq_false c];dsimp only;rw [if_neg (by decide)];refine akE hc P f (a+1) s' (by omega) (by omega) (fun x y hxy hy=>?_) i' fun m s2 l1 l2 u2 l3 i2=>h m s2 (by omega) (by omega) u2 (fun z=>l3 (by omega)) i2;by_cases cy:y < a
      . exact u x y hxy cy
      . have ey:y=a:=by omega
        subst ey;by_cases cx:x=y
        . subst cx;exact wk _
        . have:=u x (y - 1) (by omega) (by omega);have c':ky kf p (y - 1)<=ky kf p y:=by unfold ky;omega
          omega
theorem am4 {n:Nat} (hc:Asks cmp I kf n) (hd:∀ i j,i < n->j < n->kf i=kf j->i=j) {p:Array Nat} (P:Pm n p) {Q:Array Nat×Nat×Nat->Shared->Prop}:∀ (f a:Nat) (s:Shared),2<=a->a+f<=n->Down kf p a->I s->(∀ m s',a<=m->m<=a+f->Down kf p m->I s'->Q (p,m,0) s')->(kas_desc f p a 0).kasWp cmp Q s
  | 0,a,s,h1,h2,u,i,h=>h a s (au _) (au _) u i
  | f+1,a,s,h1,h2,u,i,h=>by
    show cmp (p.getD a 0) (p.getD (a - 1) 0) _ s;refine hc _ _ _ s (P.lt (by omega)) (P.lt (by omega)) i fun s' i'=>?_;by_cases c:kf (p.getD a 0) < kf (p.getD (a - 1) 0)
    . rw [decide_eq_true c];dsimp only;rw [if_pos rfl,if_neg (by omega)];refine am4 hc hd P f (a+1) s' (by omega) (by omega) (fun x y hxy hy=>?_) i' fun m s2 l1 l2 u2 i2=>h m s2 (by omega) (by omega) u2 i2;by_cases cy:y < a
      . exact u x y hxy cy
      . have ey:y=a:=by omega
        subst ey;have c':ky kf p y < ky kf p (y - 1):=c;by_cases cx:x=y - 1
        . subst cx;exact c'
        . have:=u x (y - 1) (by omega) (by omega);omega
    . rw [decide_eq_false c];dsimp only;rw [if_neg (by decide)];show cmp (p.getD (a - 1) 0) (p.getD a 0) _ s';refine hc _ _ _ s' (P.lt (by omega)) (P.lt (by omega)) i' fun s2 i2=>?_
      have ne:kf (p.getD a 0)≠kf (p.getD (a - 1) 0):=fun z=>by
        have:=P.inj (i:=a) (j:=a - 1) (by omega) (by omega) (hd _ _ (P.lt (by omega)) (P.lt (by omega)) z);omega
      rw [decide_eq_true (show kf (p.getD (a - 1) 0) < kf (p.getD a 0) by omega)];dsimp only;rw [if_pos rfl];exact h a s2 (au _) (by omega) u i2
theorem arO (hc:Asks cmp I kf n) (hd:∀ i j,i < n->j < n->kf i=kf j->i=j) (h2:2<=n) (P:Pm n p) {Q:Nat×Array Nat->Shared->Prop} (i:I s) (h:∀ m q s',1<=m->m<=n->Pm n q->Up kf q m->I s'->Q (m,q) s'):(kas_count n p).kasWp cmp Q s:=by
  unfold kas_count;rw [KasT.kasWp_bind];refine akE hc P (n - 1) 1 s (au _) (by omega) (fun x y hxy hy=>by have:x=y:=(by omega);subst this;exact wk _) i fun m s' l1 l2 u l3 i'=>?_;by_cases c:m=n
  . subst c;rw [if_pos (by simp)];exact h m p s' l1 (by omega) P u i'
  . rw [if_neg (by simpa using c)];by_cases c1:m > 1
    . rw [if_pos c1];show cmp (p.getD 0 0) (p.getD (m - 1) 0) _ s';refine hc _ _ _ s' (P.lt (by omega)) (P.lt (by omega)) i' fun s2 i2=>?_
      have ne:kf (p.getD 0 0)≠kf (p.getD (m - 1) 0):=fun z=>by
        have:=P.inj (i:=0) (j:=m - 1) (by omega) (by omega) (hd _ _ (P.lt (by omega)) (P.lt (by omega)) z);omega
      have le:ky kf p 0<=ky kf p (m - 1):=u 0 (m - 1) (by omega) (by omega);unfold ky at le;rw [decide_eq_true (show kf (p.getD 0 0) < kf (p.getD (m - 1) 0) by omega)];dsimp only;rw [if_pos rfl];exact h m p s2 l1 (by omega) P u i2
    . rw [if_neg c1];have e1:m=1:=by omega
      subst e1;unfold kas_descPart;rw [KasT.kasWp_bind];refine am4 hc hd P (n - (1+1)) (1+1) s' (by omega) (by omega) (fun x y hxy hy=>?_) i' fun m s2 k1 k2 dn i2=>?_
      . have ex:x=0:=by omega
        have ey:y=1:=by omega
        subst ex;subst ey;exact l3 (by omega)
      . dsimp only;rw [if_neg (by omega)];unfold kas_tail3;rw [KasT.kasWp_bind];refine akE hc (P.rev (m:=m)) (n - m) m s2 (by omega) (by omega) (dn.up (by rw [P.size];omega)) i2 fun k s3 q1 q2 u3 _ i3=>h k _ s3 (by omega) (by omega) P.rev u3 i3
theorem aaN {n:Nat} (hc:Asks cmp I kf n) {p:Array Nat} (P:Pm n p) {k:Nat} (hk:k < n) (u:Up kf p k) {Q:Nat->Shared->Prop}:∀ (f l r:Nat) (s:Shared),l<=r->r<=k->r - l<=f->(∀ x,x < l->ky kf p x<=ky kf p k)->(∀ x,r<=x->x < k->ky kf p k < ky kf p x)->I s ->
      (∀ m s',m<=k->(∀ x,x < m->ky kf p x<=ky kf p k)->(∀ x,m<=x->x < k->ky kf p k < ky kf p x)->I s'->Q m s')->(kas_place p k f l r).kasWp cmp Q s
  | 0,l,r,s,h1,h2,h3,a,b,i,h=>h l s (by omega) a (fun x hx=>b x (by omega)) i
  | f+1,l,r,s,h1,h2,h3,a,b,i,h=>by
    unfold kas_place;by_cases c0:l≥r
    . rw [if_pos c0];exact h l s (by omega) a (fun x hx=>b x (by omega)) i
    . rw [if_neg c0];show cmp (p.getD k 0) (p.getD ((l+r) / 2) 0) _ s;refine hc _ _ _ s (P.lt (by omega)) (P.lt (by omega)) i fun s' i'=>?_;by_cases c:kf (p.getD k 0) < kf (p.getD ((l+r) / 2) 0)
      . rw [decide_eq_true c];dsimp only;rw [if_pos rfl];refine aaN hc P hk u f l ((l+r) / 2) s' (by omega) (by omega) (by omega) a (fun x hx hxk=>?_) i' h;have:=u ((l+r) / 2) x hx hxk;have c':ky kf p k < ky kf p ((l+r) / 2):=c;omega
      . rw [decide_eq_false c];dsimp only;rw [if_neg (by decide)];refine aaN hc P hk u f ((l+r) / 2+1) r s' (by omega) (by omega) (by omega) (fun x hx=>?_) b i' h;have:=u x ((l+r) / 2) (by omega) (by omega);have c':ky kf p ((l+r) / 2)<=ky kf p k:=by unfold ky;omega
        omega
theorem arP {n:Nat} (hc:Asks cmp I kf n) {Q:Array Nat->Shared->Prop}:∀ (f k:Nat) (p:Array Nat) (s:Shared),Pm n p->1<=k->k+f=n->Up kf p k->I s->(∀ q s',Pm n q->Up kf q n->I s'->Q q s')->(kas_bin f p k).kasWp cmp Q s
  | 0,k,p,s,P,h1,h2,u,i,h=>h p s P (by rw [← h2];exact u) i
  | f+1,k,p,s,P,h1,h2,u,i,h=>by
    unfold kas_bin;rw [KasT.kasWp_bind];refine aaN hc P (by omega) u k 0 k s (lu _) (au _) (by omega) (fun x hx=>absurd hx (Nat.not_lt_zero _)) (fun x hx hk=>absurd hx (by omega)) i fun m s' l1 a b i'=>?_;have hs:k < p.size:=by rw [P.size];omega
    refine arP hc f (k+1) _ s' ⟨by rw [bubble_size];exact P.size,((bubble_perm p k _).toList).trans P.perm⟩ (by omega) (by omega) (fun x y hxy hy=>?_) i' h
    have e:∀ z,ky kf (bubble p k (k - m)) z=if z=m then ky kf p k else if m < z/\z<=k then ky kf p (z - 1) else ky kf p z:=fun z=>by
      have e:=getElem?_bubble hs (k - m) (by omega) z;rw [show k - (k - m)=m by omega] at e;by_cases c:z=m
      . rw [if_pos c] at e ⊢;exact congrArg kf (a9J e)
      . rw [if_neg c] at e ⊢;by_cases c2:m < z/\z<=k
        . rw [if_pos c2] at e ⊢;exact congrArg kf (a9J e)
        . rw [if_neg c2] at e ⊢;exact congrArg kf (a9J e)
    have e1:ky kf (bubble p k (k - m)) m=ky kf p k:=by rw [e,if_pos rfl]
    have e2:∀ z,m < z->z<=k->ky kf (bubble p k (k - m)) z=ky kf p (z - 1):=fun z h1 h2=>by rw [e,if_neg (by omega),if_pos ⟨h1,h2⟩]
    have e3:∀ z,z < m->ky kf (bubble p k (k - m)) z=ky kf p z:=fun z h1=>by rw [e,if_neg (by omega),if_neg (by omega)]
    rcases uf x m with c | c | c
    . rw [e3 x c];rcases uf y m with d | d | d
      . rw [e3 y d];exact u x y hxy (by omega)
      . rw [d,e1];exact a x c
      . rw [e2 y d (by omega)];exact u x (y - 1) (by omega) (by omega)
    . rw [c,e1];by_cases d:y=m
      . rw [d,e1];exact wk _
      . rw [e2 y (by omega) (by omega)];exact Int.le_of_lt (b (y - 1) (by omega) (by omega))
    . rw [e2 x c (by omega),e2 y (by omega) (by omega)];exact u (x - 1) (y - 1) (by omega) (by omega)
theorem ax5 (hc:Asks cmp I kf n) (hd:∀ i j,i < n->j < n->kf i=kf j->i=j) (h2:2<=n) {Q:Array Nat->Shared->Prop} (i:I s) (h:∀ q s',Pm n q->Up kf q n->I s'->Q q s'):(kas_sort n).kasWp cmp Q s:=by
  unfold kas_sort;rw [KasT.kasWp_bind];refine arO hc hd h2 ⟨by simp,by simp⟩ i fun m q s' l1 l2 P u i'=>?_;dsimp only;by_cases c:m < n
  . rw [if_pos c];have e:max m 1=m:=by omega
    rw [e];exact arP hc (n - m) m q s' P l1 (by omega) u i' h
  . rw [if_neg c];have:m=n:=by omega
    subst this;exact h q s' P u i'
end
section
variable {prog:Program} {w:World} {A:Around} {E:Value->Shared->Prop} {s:Shared}
noncomputable def ahK (prog:Program) (w:World) (A:Around) (s:Shared) (kf:Nat->Int) (vs:List Value) (h':Heap):Prop :=
  ∃ κ,(∀ Q:SortKind->Shared->Prop,Q κ { s with heap:=h' }->wpAny (model prog w) A (keyKind' vs.toArray) Q (fun _ _=>False) { s with heap:=h' })/\∀ i j (C:Bool->Shared->Prop),i < vs.length->j < vs.length->C (decide (kf i < kf j)) { s with heap:=h' }->kas_ask prog w A κ vs i j C { s with heap:=h' }
theorem aoL {l:List Value} (h:l.length < 2):(l.toArray.zip l.toArray).map (·.2)=((ji l.length).toArray.toList.map fun i=>l.getD i Value.none).toArray:=by
  cases l with
  | nil=>simp
  | cons v r =>
    cases r with
    | nil=>simp
    | cons _ _=>simp at h;omega
theorem aaO {kf:Nat->Int} {P:PySem.Fin->Shared->Prop} (ho:s.heap.get? a=some (seqObj "list" vs.toArray n)) (h64:vs.length < 64) (hd:∀ i j,i < vs.length->j < vs.length->kf i=kf j->i=j)
    (hk:2<=vs.length->∀ h':Heap,(∀ b o,b≠a->s.heap.get? b=some o->h'.get? b=some o)->ahK prog w A s kf vs h')
    (h:∀ q,Pm vs.length q->Up kf q vs.length->P (.done (.ret .none)) { s with heap:=sortedHeap s.heap a vs (q.toList.map fun i=>vs.getD i Value.none).toArray }):wpAny (model prog w) A (Builtin.«list.sort» ⟨[.ref a],[]⟩) P E s:=by
  have big:1000 < sizeLine:=by decide
  have la:a < s.heap.objs.size:=bh ho;rw [list_sort_plain];refine aj (listItems_at ho rfl (aj (listUpdate_at ho rfl ?_ (by rw [bw];omega) (lu _))));obtain ⟨e1,ho1⟩:∃ e1,(s.heap.update a (Obj.mapSeq fun _=>(#[]:Array Value))).get? a=some (seqObj "list" #[] e1):=⟨_,get?_update_seq ho fun _=>#[]⟩;refine aj (seqEpoch_at ho1 rfl (aj (wpAny_newTuple ?_ (by show vs.length<=_;omega))));refine aj (wpAny_newList ?_ (lu _));refine wpAny_holding ?_;have s0:=iz.update s.heap a (Obj.mapSeq fun _=>(#[]:Array Value));have kp:∀ b o,b≠a->s.heap.get? b=some o->(((s.heap.update a (Obj.mapSeq fun _=>(#[]:Array Value))).push (seqObj "tuple" vs.toArray 0)).push (seqObj "list" #[] 0)).get? b=some o:=fun b o hb e=>ao _ (ao _ ((s0.2 b hb).trans e));have ho6:(((s.heap.update a (Obj.mapSeq fun _=>(#[]:Array Value))).push (seqObj "tuple" vs.toArray 0)).push (seqObj "list" #[] 0)).get? a=some (seqObj "list" #[] e1):=ao _ (ao _ ho1);show wpAny (model prog w) A _ P E { s with heap:=((s.heap.update a (Obj.mapSeq fun _=>(#[]:Array Value))).push (seqObj "tuple" vs.toArray 0)).push (seqObj "list" #[] 0) };dsimp only;by_cases c2:vs.toArray.size < 2
  . rw [if_pos c2,if_pos c2];refine aj (aq ?_);rw [StateT.run_pure];refine aj (aq ?_);dsimp only;have c3:vs.length < 2:=by simpa using c2
    have eo:(arrOf (SortSt.mk' general' (vs.toArray.zip vs.toArray) #[] 7 none)).map (·.2)=((ji vs.length).toArray.toList.map fun i=>vs.getD i Value.none).toArray:=by
      show (vs.toArray.zip vs.toArray).map (·.2)=_;exact aoL c3
    refine aj (seqEpoch_at ho6 rfl ?_);rw [eo];refine aj (listUpdate_at ho6 rfl ?_ (lu _) (by simp;omega));simp only [bne_self_eq_false,jx,if_false];exact aq (h (ji vs.length).toArray ⟨by rw [bw,List.length_range],.refl _⟩ fun i j hij hj=>by have:i=j:=(by omega);subst this;exact wk _)
  . rw [if_neg c2,if_neg c2];have l2:2<=vs.length:=by rw [bw] at c2;omega
    obtain ⟨κ,k1,k2⟩:=hk l2 _ kp;refine aj (wpAny_mono (k1 (fun κ' s'=>κ'=κ/\s'={ s with heap:=((s.heap.update a (Obj.mapSeq fun _=>(#[]:Array Value))).push (seqObj "tuple" vs.toArray 0)).push (seqObj "list" #[] 0) }) ⟨rfl,rfl⟩) (fun κ' s' ⟨q1,q2⟩=>?_) fun _ _ z=>z.elim);subst q1;subst q2
    refine aj (wpAny_mono (kat_run (Q:=fun st' s'=>s'={ s with heap:=((s.heap.update a (Obj.mapSeq fun _=>(#[]:Array Value))).push (seqObj "tuple" vs.toArray 0)).push (seqObj "list" #[] 0) }/\failedOf st'=none/\∃ q,Pm vs.length q/\Up kf q vs.length/\arrOf st'=q.map (kas_item (vs.toArray.zip vs.toArray)))
      (G:=fun q s'=>s'={ s with heap:=((s.heap.update a (Obj.mapSeq fun _=>(#[]:Array Value))).push (seqObj "tuple" vs.toArray 0)).push (seqObj "list" #[] 0) }/\Pm vs.length q/\Up kf q vs.length) rfl l2 h64 (fun p st' s' a1 a2 a3 a4=>⟨a4.1,a3,p,a4.2.1,a4.2.2,a2⟩)
      (ax5 (I:=fun s'=>s'={ s with heap:=((s.heap.update a (Obj.mapSeq fun _=>(#[]:Array Value))).push (seqObj "tuple" vs.toArray 0)).push (seqObj "list" #[] 0) }) (fun i j C s' hi hj es hC=>by subst es;exact k2 i j C hi hj (hC _ rfl)) hd l2 rfl fun q s' P u es=>⟨es,P,u⟩)) ?_ fun _ _ e=>e)
    rintro ⟨⟨⟩,st'⟩ s' ⟨es,hf,q,P,u,har⟩;subst es;dsimp only;refine aj (seqEpoch_at ho6 rfl ?_);rw [kat_snds rfl har];refine aj (listUpdate_at ho6 rfl ?_ (lu _) (by rw [bw,dh,nu,P.size];omega));rw [hf];simp only [bne_self_eq_false,jx,if_false];exact aq (h q P u)
theorem arQ {kf:Nat->Int} (hl:s.heap.IsList l vs.toArray) (h64:vs.length < 64) (hd:∀ i j,i < vs.length->j < vs.length->kf i=kf j->i=j)
    (hk:2<=vs.length->∀ h':Heap,(∀ b o,s.heap.get? b=some o->h'.get? b=some o)->ahK prog w A.in1.in1 s kf vs h')
    (h:∀ q,Pm vs.length q->Up kf q vs.length->Q (.ref (s.heap.objs.size+1)) { s with heap:=sortedAll s.heap vs (q.toList.map fun i=>vs.getD i Value.none).toArray }):wpAny (model prog w) A (call (.builtin "sorted") [.ref l]) Q E s:=by
  have big:1000 < sizeLine:=by decide
  refine Calls.call_function_entry kind_sorted plain_sorted entry_sorted (args_sorted1 _) ?_;unfold Builtin.«sorted»;refine aj (m:=checkCount "sorted" 1 1 _) (aq (aj (collect_list hl (aj (wpAny_newList ?_ (by omega))) (by omega))));have sz:((s.heap.push (seqObj "list" #[] 0)).update s.heap.objs.size (Obj.mapSeq (·++vs.toArray))).objs.size=s.heap.objs.size+1:=by rw [Heap.size_update,size_push']
  have oL:(((s.heap.push (seqObj "list" #[] 0)).update s.heap.objs.size (Obj.mapSeq (·++vs.toArray))).push (seqObj "list" vs.toArray 0)).get? (s.heap.objs.size+1)=some (seqObj "list" vs.toArray 0):=by rw [← sz];exact cg _ rfl
  have kp:∀ b o,s.heap.get? b=some o->(((s.heap.push (seqObj "list" #[] 0)).update s.heap.objs.size (Obj.mapSeq (·++vs.toArray))).push (seqObj "list" vs.toArray 0)).get? b=some o:=fun b o e=>ao _ (((iz.update (s.heap.push (seqObj "list" #[] 0)) s.heap.objs.size (Obj.mapSeq (·++vs.toArray))).2 b (dw (bh e))).trans (ao _ e));show wpAny _ _ _ _ _ { s with heap:=((s.heap.push (seqObj "list" #[] 0)).update s.heap.objs.size (Obj.mapSeq (·++vs.toArray))).push (seqObj "list" vs.toArray 0) };rw [sz];refine aj (wpAny_holding (wpAny_call_entry slot_list_sort ⟨_,oL,rfl⟩ entry_list_sort (aaO (kf:=kf) oL h64 hd (fun l2 h' k'=>?_) fun q P u=>⟨_,rfl,aq ⟨_,rfl,h q P u⟩⟩) (args_list_sort _)));exact hk l2 h' fun b o e=>k' b o (dw (vf (bh e))) (kp b o e)
end
noncomputable def a2L (a b:Int×Int):Prop:=a.1 < b.1∨(a.1=b.1/\a.2 < b.2)
instance (a b:Int×Int):Decidable (a2L a b):=by unfold a2L;infer_instance
noncomputable def pP:List (Int×Int)->Prop:=List.Pairwise a2L
noncomputable def enc (M:Int) (a:Int×Int):Int:=a.1 * M+a.2
variable {M:Int}
theorem a3W (hM:2 * B < M) {a b:Int×Int} (ha:-B<=a.2/\a.2<=B) (hb:-B<=b.2/\b.2<=B):enc M a < enc M b↔a2L a b:=by
  unfold enc a2L;have m0:0<=M:=by omega
  rcases Int.lt_trichotomy a.1 b.1 with c | c | c
  . have:a.1 * M<=(b.1 - 1) * M:=Int.mul_le_mul_of_nonneg_right (by omega) m0;rw [Int.sub_mul,Int.one_mul] at this;exact ⟨fun _ => .inl c,fun _=>by omega⟩
  . rw [c];exact ⟨fun _ => .inr ⟨rfl,by omega⟩,fun h=>by rcases h with h | h <;> omega⟩
  . have:b.1 * M<=(a.1 - 1) * M:=Int.mul_le_mul_of_nonneg_right (by omega) m0;rw [Int.sub_mul,Int.one_mul] at this;exact ⟨fun _=>by omega,fun h=>by rcases h with h | h <;> omega⟩
theorem a5R:∀ ps:List (Int×Int),∃ B:Int,0<=B/\∀ p∈ps,-B<=p.2/\p.2<=B
  | []=>⟨0,wk _,fun p h=>by cases h⟩
  | p :: r=>by
    obtain ⟨B,b0,h⟩:=a5R r;refine ⟨B+p.2.natAbs,by omega,fun q hq=>?_⟩;rcases ig.mp hq with rfl | hq
    . omega
    . have:=h q hq;omega
section
variable {prog:Program} {w:World} {A:Around} {E:Value->Shared->Prop} {s:Shared}
noncomputable def a5S (h:Heap) (ps:List (Int×Int)) (vs:List Value):Prop:=vs.length=ps.length/\∀ (i:Nat) (p:Int×Int),ps[i]?=some p->∃ (a:Addr) (o:Obj) (n:Nat) (x y:Tok),vs[i]?=some (Value.ref a)/\h.get? a=some o/\o.cls=Value.type "tuple" /\ o.data = .seq #[.int p.1 x,.int p.2 y] n
theorem a5S.firsts {h:Heap}:∀ {ps:List (Int×Int)} {vs:List Value},a5S h ps vs->∃ fs:List Value,KatTups h vs fs/\fs.length=ps.length/\∀ v∈fs,∃ i t,v = .int i t
  | [],[],_=>⟨[],trivial,rfl,fun v h=>by cases h⟩
  | [],_ :: _,H=>absurd H.1 (by simp)
  | _ :: _,[],H=>absurd H.1 (by simp)
  | p :: ps,v :: vs,H=>by
    obtain ⟨a,o,n,x,y,e1,e2,e3,e4⟩:=H.2 0 p rfl;obtain ⟨fs,k1,k2,k3⟩:=a5S.firsts (h:=h) (ps:=ps) (vs:=vs) ⟨by simpa using H.1,fun i q hq=>by simpa using H.2 (i+1) q (by simpa using hq)⟩;have e1':v = .ref a:=by simpa using e1
    subst e1';refine ⟨.int p.1 x :: fs,KatTups.cons e2 e3 e4 rfl k1,by simp [k2],fun u hu=>?_⟩;rcases ig.mp hu with rfl | hu
    . exact ⟨_,_,rfl⟩
    . exact k3 u hu
theorem a78 (hM:2 * B < M) (hB:∀ p∈ps,-B<=p.2/\p.2<=B) (l2:2<=vs.length) (hp:a5S h' ps vs):ahK prog w A s (fun i=>enc M (ps.getD i (0,0))) vs h':=by
  obtain ⟨fs,k1,k2,k3⟩:=hp.firsts;have len:=hp.1;refine ⟨tuples' (Value.type "int" != Value.type "tuple"),fun Q hQ=>kat_kind (s:={ s with heap:=h' }) k1 (by omega) (fun v hv=>?_) (by simp) hQ,fun i j C hi hj hC=>?_⟩
  . obtain ⟨i,t,rfl⟩:=k3 v hv;exact .now
  . obtain ⟨p,ep⟩:∃ p,ps[i]?=some p:=⟨_,dg (by omega)⟩;obtain ⟨q,eq⟩:∃ q,ps[j]?=some q:=⟨_,dg (by omega)⟩;obtain ⟨a,o,n,x,y,a1,a2,a3,a4⟩:=hp.2 i p ep;obtain ⟨b,o',n',x',y',b1,b2,b3,b4⟩:=hp.2 j q eq;have ga:vs.getD i Value.none = .ref a:=by simp [mq,a1]
    have gb:vs.getD j Value.none = .ref b:=by simp [mq,b1]
    have gp:ps.getD i (0,0)=p:=by simp [mq,ep]
    have gq:ps.getD j (0,0)=q:=by simp [mq,eq]
    have key:=a3W hM (hB p (je ep)) (hB q (je eq))
    have hC:C (decide (enc M p < enc M q)) { s with heap:=h' }:=by
      have e:decide (enc M (ps.getD i (0,0)) < enc M (ps.getD j (0,0)))=decide (enc M p < enc M q):=by rw [decide_eq_decide,gp,gq]
      rw [← e];exact hC
    unfold kas_ask;rw [ga,gb];refine kat_lt (s:={ s with heap:=h' }) a2 a4 b2 b4 ?_;refine kat_cons (wpAny_eqBool_int ?_);refine kat_go (fun e=>kat_yes (kat_cons (wpAny_eqBool_int (kat_go (fun e2=>kat_yes (kat_nil ?_)) fun e2=>kat_no (kat_one _ _ ?_))))) fun e=>kat_no (oneLt_int ?_)
    . have c1:p.1=q.1:=by simpa using e
      have c2:p.2=q.2:=by simpa using e2
      rw [decide_eq_false (show ¬ enc M p < enc M q from fun z=>by rcases key.mp z with z | z <;> omega)] at hC;exact hC
    . have c1:p.1=q.1:=by simpa using e
      have c2:p.2≠q.2:=by simpa using e2
      refine CmpOf.ints_lt (prog:=prog) (w:=w) (A:=A) (P:=fun i v=>∃ t,v = .int (if i=0 then p.2 else q.2) t) (fun i=>if i=0 then p.2 else q.2) (fun i v h=>h) 0 1 _ _ _ _ _ ⟨y,rfl⟩ ⟨y',rfl⟩ ?_
      have:decide (enc M p < enc M q)=decide ((if (0:Nat)=0 then p.2 else q.2) < (if (1:Nat)=0 then p.2 else q.2)):=by
        rw [decide_eq_decide,key,if_pos rfl,if_neg (by decide)];unfold a2L;omega
      rw [this] at hC;exact (show PySem.W.BoolBack C (.bool _) _ from hC)
    . have c1:p.1≠q.1:=by simpa using e
      have:decide (enc M p < enc M q)=decide (p.1 < q.1):=by
        rw [decide_eq_decide,key];unfold a2L;omega
      rw [this] at hC;exact hC
end
end
variable {h:Heap}{out:Array Value}
section
open PySem.W
theorem getD_at {α:Type} {l:List α} {d:α} (h:i < l.length):l.getD i d=l[i]:=by simp [mq,h]
noncomputable abbrev prV (q:Int×Int):D := .tup [.int q.1,.int q.2]
theorem ax6 {u:Obj} (e:h.get? b=some u):(sortedAll h vs out).get? b=some u:=by
  have lb:b < h.objs.size:=bh e;have n0:b≠h.objs.size:=dw lb;have n1:b≠h.objs.size+1:=dw (vf lb);unfold sortedAll sortedHeap;rw [(iz.update _ _ _).2 b n1];refine ao _ (ao _ ?_);rw [(iz.update _ _ _).2 b n1];refine ao _ ?_;rw [(iz.update _ _ _).2 b n0];exact ao _ e
theorem aDZ:∃ c,(sortedAll h vs out).get? (h.objs.size+1)=some (seqObj "list" out c):=by
  have sz:((h.push (seqObj "list" #[] 0)).update h.objs.size (Obj.mapSeq (·++vs.toArray))).objs.size=h.objs.size+1:=by rw [Heap.size_update,size_push']
  have oL:(((h.push (seqObj "list" #[] 0)).update h.objs.size (Obj.mapSeq (·++vs.toArray))).push (seqObj "list" vs.toArray 0)).get? (h.objs.size+1)=some (seqObj "list" vs.toArray 0):=by rw [← sz];exact cg _ rfl
  unfold sortedAll sortedHeap;obtain ⟨c1,e1⟩:∃ c,((((h.push (seqObj "list" #[] 0)).update h.objs.size (Obj.mapSeq (·++vs.toArray))).push (seqObj "list" vs.toArray 0)).update (h.objs.size+1) (Obj.mapSeq fun _=>#[])).get? (h.objs.size+1)=some (seqObj "list" #[] c):=⟨_,get?_update_seq oL fun _=>#[]⟩;exact ⟨_,get?_update_seq (ao _ (ao _ e1)) fun _=>out⟩
variable {M:Int}
section
variable {X:Cx}
theorem pairs_at {σ:St} (I:Inv X pins σ H s) (r:cN X.K H (ps.map prV) xs) (rv:Vals xs us):a5S s.heap ps us:=by
  refine ⟨by rw [← rv.length,← r.length,dh],fun i p hp=>?_⟩;obtain ⟨v,e1,rd⟩:=r.get (i:=i) (d:=prV p) (by rw [qg,hp];rfl);obtain ⟨u,e2,ru⟩:=rv.get e1;cases rd with
  | @tup a zs _ hq rz _ =>
    obtain rfl:u=Value.ref a:=ru;obtain ⟨its,vi,⟨o,h1,h2,n,h3⟩,_⟩:=I.tuple hq;cases rz with
    | cons ra rb =>
    cases rb with
    | cons rb rc =>
    cases rc;cases ra;cases rb;cases vi with
    | cons va vb =>
    cases vb with
    | cons vb vc =>
    cases vc;obtain ⟨x,rfl⟩:=va;obtain ⟨y,rfl⟩:=vb;exact ⟨a,o,n,x,y,e2,h1,h2,h3⟩
theorem adW (hM:2 * B < M) (hB:∀ p∈ps,-B<=p.2/\p.2<=B) (nd:ps.Nodup) (P:Pm ps.length q) (u:Up (fun i=>enc M (ps.getD i (0,0))) q ps.length):(q.toList.map fun i=>ps.getD i (0,0)).Perm ps/\pP (q.toList.map fun i=>ps.getD i (0,0)):=by
  have id0:(ji ps.length).map (fun i=>ps.getD i (0,0))=ps:=by
    apply List.ext_getElem (by simp);intro i h1 h2;simp [h2]
  refine ⟨by have:=P.perm.map fun i=>ps.getD i (0,0);rw [id0] at this;exact this,?_⟩;unfold pP;rw [yj,qu];intro i j hi hj hij;have li:i < q.size:=by simpa using hi
  have lj:j < q.size:=by simpa using hj
  have gi:q.toList[i]=q.getD i 0:=by simp [Array.getD,li]
  have gj:q.toList[j]=q.getD j 0:=by simp [Array.getD,lj]
  rw [gi,gj];have bi:=P.lt (i:=i) (by rw [← P.size];exact li);have bj:=P.lt (i:=j) (by rw [← P.size];exact lj);have le:enc M (ps.getD (q.getD i 0) (0,0))<=enc M (ps.getD (q.getD j 0) (0,0)):=u i j (qb hij) (by rw [← P.size];exact lj);have mi:ps.getD (q.getD i 0) (0,0)∈ps:=by rw [getD_at bi];exact wg _
  have mj:ps.getD (q.getD j 0) (0,0)∈ps:=by rw [getD_at bj];exact wg _
  have k1:=a3W hM (hB _ mi) (hB _ mj);have k2:=a3W hM (hB _ mj) (hB _ mi);refine k1.mp ?_;rcases Int.lt_or_eq_of_le le with z | z
  . exact z
  . exfalso
    have e:ps.getD (q.getD i 0) (0,0)=ps.getD (q.getD j 0) (0,0):=by
      have n1:¬ a2L (ps.getD (q.getD i 0) (0,0)) (ps.getD (q.getD j 0) (0,0)):=fun w=>absurd (k1.mpr w) (by omega);have n2:¬ a2L (ps.getD (q.getD j 0) (0,0)) (ps.getD (q.getD i 0) (0,0)):=fun w=>absurd (k2.mpr w) (by omega);unfold a2L at n1 n2;exact Prod.ext (by omega) (by omega)
    have e2:ps[q.getD i 0]=ps[q.getD j 0]:=by rw [getD_at bi,getD_at bj] at e;exact e
    have key:=qu.mp nd;rcases uf (q.getD i 0) (q.getD j 0) with w | w | w
    . exact key _ _ bi bj w e2
    . have:=P.inj (by rw [← P.size];exact li) (by rw [← P.size];exact lj) w;omega
    . exact key _ _ bj bi w e2.symm
theorem aaP {K:Fg} {H:Hp} {ps:List (Int×Int)} {xs:List V} (r:cN K H (ps.map prV) xs):∀ {l:List Nat},(∀ i∈l,i < ps.length)->cN K H ((l.map fun i=>ps.getD i (0,0)).map prV) (l.map fun i=>xs.getD i .non)
  | [],_ => .nil
  | i :: l,h=>by
    obtain ⟨v,e1,rd⟩:=r.get (i:=i) (d:=prV (ps.getD i (0,0))) (by have:=h i (by simp);simp [mq,this]);have:xs.getD i .non=v:=by simp [mq,e1]
    refine .cons ?_ (aaP r fun j hj=>h j (by simp [hj]));show RD K H (prV (ps.getD i (0,0))) (xs.getD i .non);rw [this];exact rd
theorem a79 {xs:List V} {us:List Value} (r:Vals xs us):∀ {l:List Nat},(∀ i∈l,i < xs.length)->Vals (l.map fun i=>xs.getD i .non) (l.map fun i=>us.getD i Value.none)
  | [],_ => .nil
  | i :: l,h=>by
    have hi:=h i (by simp);obtain ⟨u,e1,ru⟩:=r.get (dg hi);have e2:xs.getD i .non=xs[i]:=by simp [mq,hi]
    have e3:us.getD i Value.none=u:=by simp [mq,e1]
    refine .cons ?_ (a79 r fun j hj=>h j (by simp [hj]));show RelV (xs.getD i .non) (us.getD i Value.none);rw [e2,e3];exact ru
noncomputable def aA9 (ds:List D) (G:Gp) (R:j4):Prop:=∃ ps:List (Int×Int),ds=ps.map prV/\ps.Nodup/\ps.length < 64/\∀ qs:List (Int×Int),qs.Perm ps->pP qs->∀ r,G r=none->R (.ref r) (aL G r (.lst (qs.map prV)))
noncomputable def af6:List D->Gp->j4->Prop:=fun xs G R=>match xs with
  | [.ref a]=>(match bY G a with
    | some ds=>aA9 ds G R
    | none=>False)
  | _=>False
theorem ax7 {σ:St} (I:Inv X pins σ H s) {Q:VK} (g:HR X.K H G) (r:cN X.K H (ps.map prV) xs) (rv:Vals xs us) (nd:ps.Nodup) (h64:ps.length < 64) (hM:2 * B < M) (hB:∀ p∈ps,-B<=p.2/\p.2<=B)
    (k:∀ v H' d G',Ts H H'->RD X.K H' d v->HR X.K H' G'->R d G'->Q v H') (h:∀ qs:List (Int×Int),qs.Perm ps->pP qs->∀ r,G r=none->R (.ref r) (aL G r (.lst (qs.map prV)))) (P:Pm us.length q) (u:Up (fun i=>enc M (ps.getD i (0,0))) q us.length):EP X pins σ Q (.ref (s.heap.objs.size+1)) { s with heap:=sortedAll s.heap us (q.toList.map fun i=>us.getD i Value.none).toArray }:=by
  have big:1000 < sizeLine:=by decide
  have l1:us.length=ps.length:=by rw [← rv.length,← r.length,dh]
  have l2:xs.length=ps.length:=by rw [← r.length,dh]
  rw [l1] at P u;obtain ⟨p1,p2⟩:=adW hM hB nd P u;have hin:∀ i∈q.toList,i < ps.length:=fun i hi=>rm.mp (P.perm.mem_iff.mp hi);have fr:H (s.heap.objs.size+1)=none:=I.hok.fresh (yt _);have sn:Same H (upd H (s.heap.objs.size+1) (.lst (q.toList.map fun i=>xs.getD i .non))):=bU fr;obtain ⟨c,hc⟩:=aDZ (h:=s.heap) (vs:=us) (out:=(q.toList.map fun i=>us.getD i Value.none).toArray)
  have J:Inv X pins σ (upd H (s.heap.objs.size+1) (.lst (q.toList.map fun i=>xs.getD i .non))) { s with heap:=sortedAll s.heap us (q.toList.map fun i=>us.getD i Value.none).toArray } :=
    I.laid (t':=s.toks) (fun b o e=>ax6 e) (yt _) ⟨by rw [dh,nu,P.size];omega,_,c,a79 rv fun i hi=>by rw [l2];exact hin i hi,hc⟩
  have kf:=wN J;exact ⟨.ref (s.heap.objs.size+1),_,J,rfl,k _ _ (.ref _) _ (.same sn) (.ref _) (g.put (u := .lst _) fr ⟨_,aJ,(aaP r hin).mono (.same sn)⟩) (h _ p1 p2 _ (nQ g fr kf))⟩
theorem ax8:cU X (.builtin "sorted") af6:=by
  intro pins s σ H xs vs us G R Q I rx rv g q k;unfold af6 at q;split at q
  . rename_i a;split at q
    . rename_i ds e1;obtain ⟨ps,rfl,nd,h64,h⟩:=q;cases rx with
      | cons r1 rr =>
      cases rr;cases r1;cases rv with
      | cons rv rr =>
      cases rr;cases rv;obtain ⟨zs,hq,r⟩:=d8 g e1;obtain ⟨its,vi,pl,_⟩:=I.list hq;obtain ⟨B,b0,hB⟩:=a5R ps;have hp:=pairs_at I r vi;have hM:2 * B < 2 * B+1:=by omega
      refine arQ (kf:=fun i=>enc (2 * B+1) (ps.getD i (0,0))) pl.isList (by rw [hp.1];exact h64) (fun i j hi hj e=>?_) (fun l2 h' kp=>a78 hM hB l2 ⟨hp.1,fun i p ei=>?_⟩) fun q P u=>ax7 I g r vi nd h64 hM hB k h P u
      . rw [hp.1] at hi hj;have mi:ps.getD i (0,0)∈ps:=by simp [mq,hi]
        have mj:ps.getD j (0,0)∈ps:=by simp [mq,hj]
        have k1:=a3W hM (hB _ mi) (hB _ mj);have k2:=a3W hM (hB _ mj) (hB _ mi);have e':enc (2 * B+1) (ps.getD i (0,0))=enc (2 * B+1) (ps.getD j (0,0)):=e
        have ee:ps.getD i (0,0)=ps.getD j (0,0):=by
          have n1:¬ a2L (ps.getD i (0,0)) (ps.getD j (0,0)):=fun w=>absurd (k1.mpr w) (by omega);have n2:¬ a2L (ps.getD j (0,0)) (ps.getD i (0,0)):=fun w=>absurd (k2.mpr w) (by omega);unfold a2L at n1 n2;exact Prod.ext (by omega) (by omega)
        have e2:ps[i]=ps[j]:=by simpa [mq,hi,hj] using ee
        have key:=qu.mp nd;rcases uf i j with w | w | w
        . exact absurd e2 (key _ _ hi hj w)
        . exact w
        . exact absurd e2.symm (key _ _ hj hi w)
      . obtain ⟨a,o,n,x,y,z1,z2,z3,z4⟩:=hp.2 i p ei;exact ⟨a,o,n,x,y,z1,kp _ _ z2,z3,z4⟩
    . exact q.elim
  . exact q.elim
end
end
section
open PySem.W
noncomputable def tH (h:Heap) (d:Addr) (es:Array DictEntry) (ep:Nat):Prop:=∃ o,h.get? d=some o/\o.ExactDict/\o.data = .dict es ep
section
variable {prog:Program} {w:World} {A:Around} {E:Value->Shared->Prop} {s:Shared} {d it:Addr} {es:Array DictEntry} {ep i:Nat}
theorem tH.typeIs (hm:tH s.heap d es ep):s.TypeIs (.ref d) "dict" := let ⟨o,ho,hc,_⟩:=hm;⟨o,ho,hc.1⟩
theorem tH.lt (hm:tH h d es ep):d < h.objs.size:=let ⟨_,ho,_⟩:=hm;bh ho
theorem tH.at (hm:tH h d es ep) (k:∀ o,h.get? d=some o->h'.get? d=some o):tH h' d es ep:=let ⟨o,ho,r⟩:=hm;⟨o,k o ho,r⟩
theorem am5 (hd:(d == sysModules)=false) (hm:tH s.heap d es ep) (hQ:Q (.ref s.heap.objs.size) { s with heap:=s.heap.push { cls := .type "dict_keyiterator",data := .fields #[.ref d,.int 0 0,.int es.size 0,.int ep 0] } }):wpAny (model prog w) A (pyIter (.ref d)) Q E s:=by
  have T:=hm.typeIs;obtain ⟨o,ho,hc,hdat⟩:=hm;refine wpAny_pyIter_slot T F.slot_dict_iter (wpAny_call_entry F.slot_dict_iter T F.entry_dict_iter ?_ (F.args_dict_iter_1 _));unfold Builtin.«dict.__iter__»;refine aj ?_;unfold Builtin.Dict.dictSlotNone;refine aj (wpAny_notOrdered_dict T ?_);show wpAny _ _ (pure (Value.ref d)) _ _ s;refine aq ?_;show wpAny _ _ (Builtin.Dict.showsAll d >>= _) _ _ s;unfold Builtin.Dict.showsAll;rw [if_neg (by rw [hd];exact jm)];refine aj (aq (aj (wpAny_dictEntries ho hdat (aj (wpAny_dictEpoch ho hdat (aj (wpAny_newObj_type (aq ⟨_,rfl, "dict_keyiterator",_,⟨_,cg _ rfl,rfl⟩,F.slot_dict_keyiterator_next.lookup,?_⟩))))))));simpa [rawInt] using hQ
variable {Q:Option Value->Shared->Prop}
theorem af7 {e:DictEntry} (hit:s.heap.IsKeyIter it d i es.size ep) (hm:tH s.heap d es ep) (hx:es[i]?=some e)
    (hQ:∀ h',h'.IsKeyIter it d (i+1) es.size ep->iz it s.heap h'->Q (some e.key) { s with heap:=h' }):wpAny (model prog w) A (pyNext (.ref it)) Q E s:=by
  obtain ⟨o,ho,hc,hd⟩:=id hit;obtain ⟨od,hod,hcd,hdd⟩:=hm;have lt:i < es.size:=(uc.mp hx).1;unfold pyNext;refine aj (wpAny_attempt (wpAny_callSpecial?_slot (name:=Str.ofString "__next__") hit.typeIs F.slot_dict_keyiterator_next (wpAny_call_entry F.slot_dict_keyiterator_next hit.typeIs F.entry_dict_keyiterator_next ?_ (F.args_dict_keyiterator_next_1 _))));refine aj (aq ?_);refine aj ?_;refine aj ?_
  (first | refine aj (wpAny_typeNameOfWhole_keyiter hit.typeIs (aq ?_)) | refine aj (wpAny_typeNameOf_keyiter hit.typeIs (aq ?_)));refine aj (wpAny_fieldsOf ho hd ?_)
  have own:Builtin.Dict_items.ownsTuple "dict_keyiterator" = false:=by decide
  simp only [own,jx,if_false];show wpAny _ _ (if (Value.ref d == Value.none)=true then _ else _) _ _ s;rw [if_neg (show ¬ ((Value.ref d == Value.none)=true) from jm)];refine aj (aq (aj (wpAny_dictEntries hod hdd ?_)));rw [if_neg (by simp)];refine aj (aq (aj (wpAny_dictEpoch hod hdd ?_)));rw [if_neg (by simp)];refine aq ?_;simp only [show ¬ ((i:Int) < 0) from by omega,if_false,ud,hx];refine aj ?_
  (first | refine aj (wpAny_typeNameOfWhole_keyiter hit.typeIs (aq ?_)) | refine aj (wpAny_typeNameOf_keyiter hit.typeIs (aq ?_)));refine aj (wpAny_isOneOf_keyiter hit.typeIs ?_)
  show wpAny _ _ (setField (.ref it) 1 (rawInt ((i:Int)+1)) >>= _) _ _ s;refine aj (wpAny_setField ho hd (by simp) ?_);have hit':(s.heap.update it (Obj.mapFields (·.setIfInBounds 1 (rawInt ((i:Int)+1))))).IsKeyIter it d (i+1) es.size ep:=⟨_,vh _ ho (Obj.isFreed_of_fields (Obj.data_mapFields hd _)),(Obj.cls_mapFields ..).trans hc,by rw [Obj.data_mapFields hd];simp [rawInt]⟩;refine aj (wpAny_holding (aj (wpAny_isOneOf_keyiter (s:={ s with heap:=s.heap.update it (Obj.mapFields (·.setIfInBounds 1 (rawInt ((i:Int)+1)))) }) hit'.typeIs ?_)));show wpAny _ _ (pure e.key) _ _ _;exact aq (aq ⟨_,rfl,aq (hQ _ hit' (iz.update ..))⟩)
theorem akF (hh:A.handled=none) (hit:s.heap.IsKeyIter it d i es.size ep) (hm:tH s.heap d es ep) (hx:es.size<=i) (hQ:∀ h',yp it s.heap h'->Q none { s with heap:=h' }):wpAny (model prog w) A (pyNext (.ref it)) Q E s:=by
  obtain ⟨o,ho,hc,hd⟩:=id hit;obtain ⟨od,hod,hcd,hdd⟩:=hm;unfold pyNext;refine aj (wpAny_attempt (wpAny_callSpecial?_slot (name:=Str.ofString "__next__") hit.typeIs F.slot_dict_keyiterator_next (wpAny_call_entry F.slot_dict_keyiterator_next hit.typeIs F.entry_dict_keyiterator_next ?_ (F.args_dict_keyiterator_next_1 _))));refine aj (aq ?_);refine aj ?_;refine aj ?_
  (first | refine aj (wpAny_typeNameOfWhole_keyiter hit.typeIs (aq ?_)) | refine aj (wpAny_typeNameOf_keyiter hit.typeIs (aq ?_)));refine aj (wpAny_fieldsOf ho hd ?_)
  have own:Builtin.Dict_items.ownsTuple "dict_keyiterator" = false:=by decide
  simp only [own,jx,if_false];show wpAny _ _ (if (Value.ref d == Value.none)=true then _ else _) _ _ s;rw [if_neg (show ¬ ((Value.ref d == Value.none)=true) from jm)];refine aj (aq (aj (wpAny_dictEntries hod hdd ?_)));rw [if_neg (by simp)];refine aj (aq (aj (wpAny_dictEpoch hod hdd ?_)));rw [if_neg (by simp)];refine aq ?_;simp only [show ¬ ((i:Int) < 0) from by omega,if_false,ud,Array.getElem?_eq_none hx];refine aj ?_
  (first | refine aj (wpAny_typeNameOfWhole_keyiter hit.typeIs (aq ?_)) | refine aj (wpAny_typeNameOf_keyiter hit.typeIs (aq ?_)));show wpAny _ _ (setField (.ref it) 0 .none >>= _) _ _ s
  refine aj (wpAny_setField ho hd (by simp) ?_);show wpAny _ _ (newExc (.type "StopIteration") [] >>= _) _ _ _;refine aj ?_;simp only [newExc,newTuple];refine aj (wpAny_newObj_type ?_ (by size_fits));refine aj (m:=firstArgMember _ _) (wpAny_of_eq (a:=Value.none) (by first | rfl | (simp only [firstArgMember];rfl)) (wpAny_newObj_type ?_ (by size_fits)));simp only [raiseNew];refine aj (wpAny_handled ?_);rw [show A.in1.handled=none from hh];refine aj (aq (wpAny_throw ?_));refine aj (wpAny_isInstance (T := "StopIteration") (b:=true) ⟨_,cg _ rfl,rfl⟩ isSubtype_stop ?_);refine aq (hQ _ fun b o' hb e=>?_);exact ao _ (ao _ (((iz.update _ _ _).2 b hb).trans e))
theorem arR (hh:A.handled=none) (I:Addr) (hne:d≠I):Walks prog w A I [I,d] [I] es.size (fun i v=>∃ e,es[i]?=some e/\v=e.key) (fun i h=>h.IsKeyIter I d i es.size ep/\tH h d es ep) where
  sub:=fun b hb=>by simp at hb;simp [hb]
  frame:=fun _ _ _ st hk=>⟨st.1.at fun o e=>hk I (by simp) o e,st.2.at fun o e=>hk d (by simp) o e⟩
  item:=fun i s Q E hi st hQ=>by
    have hx:es[i]?=some es[i]:=qw hi;exact af7 st.1 st.2 hx fun h' hit' hs'=>hQ _ h' s.toks ⟨_,hx,rfl⟩ ⟨hit',st.2.at fun o e=>hs'.extBut _ o hne e⟩ fun b o hb e=>hs'.extBut b o (fun h=>hb (by simp [h])) e
  done:=fun s Q E st hQ=>akF hh st.1 st.2 (au _) fun h' he'=>hQ h' s.toks fun b o hb e=>he' b o (fun h=>hb (by simp [h])) e
  self:=fun _ _ _ _ st hQ=>wpAny_pyIter_keyiter st.1 hQ
theorem aE0 (lo:(d == sysModules)=false):KdlSrc prog w "dict" d d es.size (fun i v=>∃ e,es[i]?=some e/\v=e.key) (fun h=>tH h d es ep) where
  type:=fun _ hm=>hm.typeIs
  there:=fun _ hm=>⟨hm.lt,hm.lt⟩
  keep:=fun _ _ hm hk=>hm.at fun o e=>hk d (.inl rfl) o e
  notList:=by decide
  notTuple:=by decide
  hint:=fun _ _ _ _ hm hq=>kdl_hint_dict hm.typeIs hq
  iter:=fun _ s hh hm=>⟨_,_,(fun _ _ hq=>am5 lo hm hq),arR hh _ (dw hm.lt),⟨⟨_,cg _ rfl,rfl,rfl⟩,hm.at fun o e=>ao _ e⟩⟩
end
end
section
open PySem.W
section
variable {X:Cx} {tg:Expr}
end
section
variable {X:Cx} {tg:Expr}
end
end
variable {d I:Addr}
section
open PySem.W
theorem ax9:typeLookup (.type "list") "keys" = pure none:=by rw [typeLookup_type,builtinLookup_eq_fast];kernel_rfl
variable {x:List Key×Addr×Value}
section
variable {prog:Program} {w:World} {A:Around} {E:Value->Shared->Prop} {s:Shared}
theorem axA {o:Obj} {xs:Array Value} {k:Nat} {Q:Option Value->Shared->Prop}
    (hx:s.heap.get? a=some o) (hc:o.cls = .type "list") (hdat:o.data = .seq xs k) (hd:o.dict=none) (hA:A.handled=none)
    (h:∀ h' tk,(∀ b o,s.heap.get? b=some o->h'.get? b=some o)->Q none { s with heap:=h',toks:=tk }) :
    wpAny (model prog w) A (getAttr? (.ref a) "keys") Q E s:=by
  obtain ⟨c,dct,dat,sl⟩:=o;simp only at hc hdat hd;subst hc hdat hd;obtain ⟨hp,g,d,tk,os⟩:=s;have hT:∀ tk',(⟨hp,g,d,tk',os⟩:Shared).TypeIs (.ref a) "list" := fun _=>⟨_,hx,rfl⟩;have f1:=sub_AttributeError;have f3:=F.slot_list_getattribute.lookup;have f4:=F.slot_list_getattribute.bind (.ref a);have f5:=am_list_getattr_none;unfold getAttr? getAttrBy? getAttrBy
  repeat (any_goals (first | assumption | exact hT _ | ((with_reducible show wpAny _ _ (call (Value.builtin "list.__getattribute__") _ _) _ _ _);refine call_meets F.slot_list_getattribute (hT _) am_entry_list_getattribute (F.args_list_getattribute_2 _ _) (meets_getattribute_miss_list a xs k sl "keys" _ ax9 (by decide) (by decide)) ⟨hx,hA,fun h' tk' e hx'=>?_⟩) | wp_step))
  obtain ⟨t',u',he⟩:=hx'.there;show wpAny _ _ (getattributeRaised _ _ _ _ _ _ _) _ _ _;unfold getattributeRaised
  repeat (any_goals (first | assumption | wp_step))
  exact h _ _ hx'.keeps
theorem ahL:entryFor table "dict.update.loop" = some Builtin.«dict.update.loop» := entryFor_of_fast (by kernel_rfl)
theorem a5T:plainId "dict.update.loop" = true:=by decide +kernel
noncomputable abbrev TK (prog:Program) (w:World):=tupleKind (aP prog w)
noncomputable def aJK (prog:Program) (w:World) (h:Heap) (v:Value) (x:List Key×Addr×Value):Prop:=∃ p o n,v = .ref p/\h.get? p=some o/\o.cls = .type "tuple" /\ o.data = .seq #[.ref x.2.1,x.2.2] n/\(TK prog w).is h x.1 x.2.1
noncomputable def aJL (xs ps:List (List Key×Addr×Value)):List (List Key×Addr×Value):=ps.foldl (fun acc x=>storedH acc x.1 x.2.1 x.2.2) xs
theorem am6 {ks:List Key} (x:(TK prog w).is h ks a) (k:∀ o,h.get? a=some o->h'.get? a=some o):(TK prog w).is h' ks a:=by
  obtain ⟨o,its,n,h1,r⟩:=x;exact ⟨o,its,n,k _ h1,r⟩
noncomputable def axB (prog:Program) (w:World) (I d:Addr) (h:Heap) (v:Value) (x:List Key×Addr×Value):Prop:=∃ p o n,v = .ref p/\h.get? p=some o/\o.cls = .type "tuple" /\ o.data = .seq #[.ref x.2.1,x.2.2] n/\(TK prog w).is h x.1 x.2.1/\p≠I/\p≠d/\x.2.1≠I/\x.2.1≠d
theorem axB.keep (q:axB prog w I d h v x) (k:∀ b o,b≠d->b≠I->h.get? b=some o->h'.get? b=some o):axB prog w I d h' v x:=by
  obtain ⟨p,o,n,e,h1,h2,h3,h4,h5,h6,h7,h8⟩:=q;exact ⟨p,o,n,e,k _ _ h6 h5 h1,h2,h3,am6 h4 fun o e=>k _ _ h8 h7 e,h5,h6,h7,h8⟩
theorem aJK.ok (q:aJK prog w h v x) (hI:h.objs.size<=I) (hd:h.objs.size<=d) (k:∀ b o,h.get? b=some o->h'.get? b=some o):axB prog w I d h' v x:=by
  obtain ⟨p,o,n,e,h1,h2,h3,h4⟩:=q;have l1:=bh h1
  have l2:x.2.1 < h.objs.size:=by
    obtain ⟨o2,its,n2,z,_⟩:=id h4;exact bh z
  exact ⟨p,o,n,e,k _ _ h1,h2,h3,am6 h4 fun o e=>k _ _ e,dw (dz l1 hI),dw (dz l1 hd),dw (dz l2 hI),dw (dz l2 hd)⟩
end
end
section
open PySem.W
noncomputable def aJM (kvs:List (DK×D)) (ps:List (List Key×D)):List (DK×D):=ps.foldl (fun acc p=>dR acc (.inr p.1) p.2) kvs
inductive Prs (K:Fg) (H:Hp):List (List Key×D)->List (List Key×Addr×Value)->Prop where
  | nil:Prs K H [] []
  | cons {ks:List Key} {b:Addr} {vz:V} {u:Value} {d:D} {kvs:List (List Key×D)} {ps:List (List Key×Addr×Value)}:H b=some (.tup (ks.map kV))->RD K H d vz->RelV vz u->Prs K H kvs ps->Prs K H ((ks,d) :: kvs) ((ks,b,u) :: ps)
variable {kvs:List (List Key×D)}{ps:List (List Key×Addr×Value)}
theorem Prs.len {K:Fg} (h:Prs K H kvs ps):kvs.length=ps.length:=by
  induction h with
  | nil=>rfl
  | cons _ _ _ _ ih=>simp [ih]
theorem Prs.fold {K:Fg} (h:Prs K H kvs ps):∀ {k0:List (DK×D)} {y0:List (List Key×V)} {p0:List (List Key×Addr×Value)},KT H y0 p0->v7 K H .inr k0 y0->∃ ys,KT H ys (aJL p0 ps)/\v7 K H .inr (aJM k0 kvs) ys:=by
  induction h with
  | nil=>intro k0 y0 p0 a b;exact ⟨y0,a,b⟩
  | @cons ks b vz u d kvs ps e rd rv _ ih =>
    intro k0 y0 p0 a c;exact ih (KT.put a ks e rv) (a5P nR rd c)
section
variable {X:Cx}
theorem a7A {K:Fg} {H:Hp}:∀ (ks:List Key),cN K H (ks.map kD) (ks.map kV)
  | [] => .nil
  | .inl i :: r => .cons (.int i) (a7A r)
  | .inr x :: r => .cons (.str x) (a7A r)
theorem ahM {K:Fg} {H:Hp}:∀ {kvs:List (DK×D)} {ys:List (List Key×V)} {ws:List (List Key×Addr×Value)},v7 K H .inr kvs ys->KT H ys ws->cN K H (kvs.map fun p=>dkD p.1) (ws.map fun x => .ref x.2.1)
  | _,_,_,.nil,.nil => .nil
  | p :: kvs,q :: ys,x :: ws,.cons h r,.cons h' r'=>by
    refine .cons ?_ (ahM r r');show RD K H (dkD p.1) (.ref x.2.1);rw [h.1];have e:=h'.2.1;exact .tup (SqT.of e) (a7A _) (ak6 e)
end
end
variable {EX:aO->aZ}
section
noncomputable abbrev af8 (X:Cx) (i:Nat) (nm:Str):Cx:={ X with N:=X.N.set i nm }
section
variable {X:Cx} {pins:List (Addr×Obj)} {σ:St} {H:Hp} {s:Shared} {i:Nat} {nm:Str}
theorem aE2 (ok:X.Ok):(af8 X i nm).Ok:=⟨ok.mod,ok.kind,ok.glob,ok.blt,ok.above,ok.inj,ok.has,ok.cab,ok.hd,ok.frames,ok.stk,ok.exf,ok.bs,ok.bsz,ok.a8S,ok.a9Q,ok.vV,ok.frf⟩
theorem aE3 (ok:(af8 X i nm).Ok):X.Ok:=⟨ok.mod,ok.kind,ok.glob,ok.blt,ok.above,ok.inj,ok.has,ok.cab,ok.hd,ok.frames,ok.stk,ok.exf,ok.bs,ok.bsz,ok.a8S,ok.a9Q,ok.vV,ok.frf⟩
theorem arS (I:Inv X pins σ H s):Inv (af8 X i nm) pins (yL σ i) H s :=
  ⟨aE2 I.ok,I.os,I.bare,I.base,let ⟨m,hn,hl⟩:=I.loc;⟨m,hn,fun j x v e1 e2 e3=>by
    obtain ⟨n,e4⟩:=a5K σ i j v e2;have e1':(X.N.set i nm)[j]?=some x:=e1;rw [kj (Ne.symm n)] at e1';exact hl j x v e1' e4 e3⟩,I.cell,I.free,I.m8,I.pin,I.hok,by rw [a5J,I.len];simp,I.hnd,I.tup⟩
theorem wV (I:Inv (af8 X i nm) pins σ H s):Inv X pins (yL σ i) H s :=
  ⟨aE3 I.ok,I.os,I.bare,I.base,let ⟨m,hn,hl⟩:=I.loc;⟨m,hn,fun j x v e1 e2 e3=>by
    obtain ⟨n,e4⟩:=a5K σ i j v e2;exact hl j x v (by show (X.N.set i nm)[j]?=some x;rw [kj (Ne.symm n)];exact e1) e4 e3⟩,I.cell,I.free,I.m8,I.pin,I.hok,by rw [a5J,I.len];simp,I.hnd,I.tup⟩
end
noncomputable def aJN (F:fX) (i:Nat):fX:={ nx:=fun ρ G=>F.nx (rB ρ i) G,rt:=F.rt,bk:=fun ρ G=>F.bk (rB ρ i) G,ct:=fun ρ G=>F.ct (rB ρ i) G }
noncomputable def am7 (i:Nat) (t:bJ):bJ:=fun F ρ G=>t (aJN F i) (rB ρ i) G
theorem aE4 {nm:Str} {st:Stmt} {t:bJ} (h:PS3 (af8 X i nm) st t):PS3 X st (am7 i t):=by
  intro pins s σ H F I q;obtain ⟨ρ,G,E,sr,g,q,u⟩:=q;refine f9 (h pins s (yL σ i) H { nx:=fun σ H=>F.nx (yL σ i) H,rt:=F.rt,bk:=fun σ H=>F.bk (yL σ i) H,ct:=fun σ H=>F.ct (yL σ i) H } (arS I) ⟨rB ρ i,G,aJN E i,sr.clr i,g,q,⟨fun ρ G σ H' a b c=>u.nx _ _ _ _ (a.clr i) b c,u.rt,fun ρ G σ H' a b c=>u.bk _ _ _ _ (a.clr i) b c,fun ρ G σ H' a b c=>u.ct _ _ _ _ (a.clr i) b c⟩⟩) fun f s' z=>?_;cases f with
  | next=>obtain ⟨σ',H',I',z⟩:=z;exact ⟨_,H',wV I',z⟩
  | brk=>obtain ⟨σ',H',I',z⟩:=z;exact ⟨_,H',wV I',z⟩
  | cont=>obtain ⟨σ',H',I',z⟩:=z;exact ⟨_,H',wV I',z⟩
  | ret v=>obtain ⟨v,σ',H',I',r,z⟩:=z;exact ⟨v,_,H',wV I',r,z⟩
theorem arT {nm:Str} (c:Cat X EX):Cat (af8 X i nm) (fun ρ=>EX (rB ρ i)):=⟨fun pins σ H s ρ e s' I sr q=>c.adL pins _ H s _ e s' (wV I) (sr.clr i) q⟩
theorem arU {nm:Str} (c:Thr X EX):Thr (af8 X i nm) (fun ρ=>EX (rB ρ i)):=⟨fun pins σ H s ρ C e us h' I sr m q=>c.made pins _ H s _ C e us h' (wV I) (sr.clr i) m q⟩
theorem aaQ {nm:Str}:∀ {N:List Str} {i:Nat},N.Nodup->nm ∉ N->(N.set i nm).Nodup
  | [],_,h,_=>h
  | x :: r,0,h,n=>by
    rw [jg] at h;show (nm :: r).Nodup;rw [jg];exact ⟨fun z=>n (.tail _ z),h.2⟩
  | x :: r,i+1,h,n=>by
    rw [jg] at h;show (x :: r.set i nm).Nodup;rw [jg];refine ⟨fun z=>?_,aaQ h.2 fun z=>n (.tail _ z)⟩;rcases List.mem_or_eq_of_mem_set z with z | z
    . exact h.1 z
    . exact n (z ▸ .head _)
end
variable {r:Addr}{h1:Heap}
section
open PySem.W
section
variable {prog:Program} {w:World} {A:Around} {E:Value->Shared->Prop} {s:Shared}
theorem am8 {u:Obj} (e:h.get? b=some u):(sortedHeap (h.push (seqObj "list" vs.toArray 0)) h.objs.size vs out).get? b=some u:=by
  have n0:b≠h.objs.size:=dw (bh e);unfold sortedHeap;rw [(iz.update _ _ _).2 b n0];refine ao _ (ao _ ?_);rw [(iz.update _ _ _).2 b n0];exact ao _ e
theorem arV:∃ c,(sortedHeap (h.push (seqObj "list" vs.toArray 0)) h.objs.size vs out).get? h.objs.size=some (seqObj "list" out c):=by
  have oL:(h.push (seqObj "list" vs.toArray 0)).get? h.objs.size=some (seqObj "list" vs.toArray 0):=cg _ rfl;unfold sortedHeap;obtain ⟨c1,e1⟩:∃ c,((h.push (seqObj "list" vs.toArray 0)).update h.objs.size (Obj.mapSeq fun _=>#[])).get? h.objs.size=some (seqObj "list" #[] c):=⟨_,get?_update_seq oL fun _=>#[]⟩;exact ⟨_,get?_update_seq (ao _ (ao _ e1)) fun _=>out⟩
theorem axC {kf:Nat->Int}
    (aE5:∀ (R:List Value->Shared->Prop) (E:Value->Shared->Prop),(∀ h' tk,(∀ b o,s.heap.get? b=some o->h'.get? b=some o)->R vs { s with heap:=h',toks:=tk })->wpAny (model prog w) A.in1 (collect (.ref r)) R E s)
    (h64:vs.length < 64) (hd:∀ i j,i < vs.length->j < vs.length->kf i=kf j->i=j)
    (hk:2<=vs.length->∀ (s':Shared) (h':Heap),(∀ b o,s.heap.get? b=some o->h'.get? b=some o)->ahK prog w A.in1.in1 s' kf vs h')
    (h:∀ (q:Array Nat) (h1:Heap) (tk:Nat) (h':Heap) (c:Nat),Pm vs.length q->Up kf q vs.length->(∀ b o,s.heap.get? b=some o->h1.get? b=some o)->(∀ b o,h1.get? b=some o->h'.get? b=some o)->h'.get? h1.objs.size=some (seqObj "list" (q.toList.map fun i=>vs.getD i Value.none).toArray c)->Q (.ref h1.objs.size) { s with heap:=h',toks:=tk }):wpAny (model prog w) A (call (.builtin "sorted") [.ref r]) Q E s:=by
  have big:1000 < sizeLine:=by decide
  refine Calls.call_function_entry kind_sorted plain_sorted entry_sorted (args_sorted1 _) ?_;unfold Builtin.«sorted»;refine aj (m:=checkCount "sorted" 1 1 _) (aq (aj (aE5 _ _ fun h1 tk k1=>aj (wpAny_newList ?_ (by omega)))));have oL:(h1.push (seqObj "list" vs.toArray 0)).get? h1.objs.size=some (seqObj "list" vs.toArray 0):=cg _ rfl;have kp:∀ b o,s.heap.get? b=some o->(h1.push (seqObj "list" vs.toArray 0)).get? b=some o:=fun b o e=>ao _ (k1 b o e);refine aj (wpAny_holding (wpAny_call_entry (s:={ s with heap:=h1.push (seqObj "list" vs.toArray 0),toks:=tk }) slot_list_sort ⟨_,oL,rfl⟩ entry_list_sort (aaO (kf:=kf) (s:={ s with heap:=h1.push (seqObj "list" vs.toArray 0),toks:=tk }) oL h64 hd (fun l2 h' k'=>?_) fun q P u=>⟨_,rfl,aq ⟨_,rfl,?_⟩⟩) (args_list_sort _)))
  . exact hk l2 _ h' fun b o e=>k' b o (dw (bh (k1 b o e))) (kp b o e)
  . obtain ⟨c,hc⟩:=arV (h:=h1) (vs:=vs) (out:=(q.toList.map fun i=>vs.getD i Value.none).toArray);exact h q h1 tk _ c P u k1 (fun b o e=>am8 e) hc
end
variable {M:Int}
section
variable {X:Cx}
theorem ahN {σ:St} (I:Inv X pins σ H s) {Q:VK} (g:HR X.K H G) (r:cN X.K H (ps.map prV) xs) (rv:Vals xs us) (nd:ps.Nodup) (h64:ps.length < 64) (hM:2 * B < M) (hB:∀ p∈ps,-B<=p.2/\p.2<=B)
    (k:∀ v H' d G',Ts H H'->RD X.K H' d v->HR X.K H' G'->R d G'->Q v H') (h:∀ qs:List (Int×Int),qs.Perm ps->pP qs->∀ r,G r=none->R (.ref r) (aL G r (.lst (qs.map prV)))) (P:Pm us.length q) (u:Up (fun i=>enc M (ps.getD i (0,0))) q us.length) {c:Nat} (k1:∀ b o,s.heap.get? b=some o->h1.get? b=some o) (k2:∀ b o,h1.get? b=some o->h'.get? b=some o) (ho:h'.get? h1.objs.size=some (seqObj "list" (q.toList.map fun i=>us.getD i Value.none).toArray c)):EP X pins σ Q (.ref h1.objs.size) { s with heap:=h',toks:=tk }:=by
  have big:1000 < sizeLine:=by decide
  have l1:us.length=ps.length:=by rw [← rv.length,← r.length,dh]
  have l2:xs.length=ps.length:=by rw [← r.length,dh]
  rw [l1] at P u;obtain ⟨p1,p2⟩:=adW hM hB nd P u;have hin:∀ i∈q.toList,i < ps.length:=fun i hi=>rm.mp (P.perm.mem_iff.mp hi);have I1:Inv X pins σ H { s with heap:=h1,toks:=tk }:=I.kept (t':=tk) k1;have fr:H h1.objs.size=none:=I1.hok.fresh (au _);have sn:Same H (upd H h1.objs.size (.lst (q.toList.map fun i=>xs.getD i .non))):=bU fr
  have J:Inv X pins σ (upd H h1.objs.size (.lst (q.toList.map fun i=>xs.getD i .non))) { s with heap:=h',toks:=tk } :=
    I1.laid (t':=tk) (fun b o e=>k2 b o e) (au _) ⟨by rw [dh,nu,P.size];omega,_,c,a79 rv fun i hi=>by rw [l2];exact hin i hi,ho⟩
  have kf:=wN J;exact ⟨.ref h1.objs.size,_,J,rfl,k _ _ (.ref _) _ (.same sn) (.ref _) (g.put (u := .lst _) fr ⟨_,aJ,(aaP r hin).mono (.same sn)⟩) (h _ p1 p2 _ (nQ g fr kf))⟩
theorem am9 (nd:ps.Nodup) (hM:2 * B < M) (hB:∀ p∈ps,-B<=p.2/\p.2<=B):∀ i j,i < ps.length->j < ps.length->enc M (ps.getD i (0,0))=enc M (ps.getD j (0,0))->i=j:=fun i j hi hj e'=>by
  have mi:ps.getD i (0,0)∈ps:=by simp [mq,hi]
  have mj:ps.getD j (0,0)∈ps:=by simp [mq,hj]
  have k1:=a3W hM (hB _ mi) (hB _ mj);have k2:=a3W hM (hB _ mj) (hB _ mi)
  have ee:ps.getD i (0,0)=ps.getD j (0,0):=by
    have n1:¬ a2L (ps.getD i (0,0)) (ps.getD j (0,0)):=fun w=>absurd (k1.mpr w) (by omega);have n2:¬ a2L (ps.getD j (0,0)) (ps.getD i (0,0)):=fun w=>absurd (k2.mpr w) (by omega);unfold a2L at n1 n2;exact Prod.ext (by omega) (by omega)
  have e2:ps[i]=ps[j]:=by simpa [mq,hi,hj] using ee
  have key:=qu.mp nd;rcases uf i j with w | w | w
  . exact absurd e2 (key _ _ hi hj w)
  . exact w
  . exact absurd e2.symm (key _ _ hj hi w)
theorem axD {σ:St} (I:Inv X pins σ H s) {ys:List (List Key×V)} (e:H a=some (.dT ys)):∃ (es:Array DictEntry) (ep:Nat) (ws:List (List Key×Addr×Value)),(a == sysModules)=false/\tH s.heap a es ep/\es.size<=sizeLine/\KT H ys ws/\∀ acc:Array Value,ItemsOf (fun i v=>∃ e,es[i]?=some e/\v=e.key) acc es.size->acc.toList=ws.map fun x=>Value.ref x.2.1:=by
  obtain ⟨z1,hd,ws,rel,o,es,ep,ho,hcl,hdat,he,his,hn⟩:=agK I.hok e;have lw:es.size=ws.length:=size_of_entries he;have lw2:ws.length=ys.length:=(Paired.length rel).symm;refine ⟨es,ep,ws,hd,⟨o,ho,hcl,hdat⟩,by omega,rel,fun acc hacc=>?_⟩;apply List.ext_getElem?;intro i;by_cases hi:i < ws.length
  . have hi2:i < acc.size:=by rw [hacc.1,lw];exact hi
    obtain ⟨en,e1,e2⟩:=hacc.2 i acc[i] (qw hi2);have e3:es.toList[i]?=some en:=by rw [tu];exact e1
    rw [he,qg,dg hi] at e3;have e4:entryOfKey (tupleKind (aP X.prog X.w)) ws[i]=en:=by simpa using e3
    rw [tu,qw hi2,e2,← e4,qg,dg hi];rfl
  . rw [qp (by rw [nu,hacc.1,lw];omega),qp (by simp;omega)]
theorem adX:∀ l:List (List Key×Addr×Value),Vals (l.map fun x=>V.ref x.2.1) (l.map fun x=>Value.ref x.2.1)
  | [] => .nil
  | _ :: r => .cons rfl (adX r)
noncomputable def vA:List D->Gp->j4->Prop:=fun xs G R=>match xs with
  | [.ref a]=>(match G a with
    | some (.bQ true kvs)=>aA9 (kvs.map fun p=>dkD p.1) G R
    | _=>False)
  | _=>False
theorem axE (hc:X.calm=true):cU X (.builtin "sorted") vA:=by
  intro pins s σ H xs vs us G R Q I rx rv g q k;unfold vA at q;split at q
  . rename_i a;split at q
    . rename_i kvs e1;obtain ⟨ps,ep,nd,h64,h⟩:=q;cases rx with
      | cons r1 rr =>
      cases rr;cases r1;cases rv with
      | cons rv rr =>
      cases rr;cases rv;rcases g a _ e1 with ⟨z,_⟩ | ⟨_,ys,e,r⟩
      . cases z
      . obtain ⟨es,epo,ws,hsm,raw,hz,rel,hall⟩:=axD I e;have rds:=ahM r rel;rw [ep] at rds;have vi:=adX ws;obtain ⟨B,b0,hB⟩:=a5R ps;have hp:=pairs_at I rds vi;have hM:2 * B < 2 * B+1:=by omega
        refine axC (kf:=fun i=>enc (2 * B+1) (ps.getD i (0,0))) (vs:=ws.map fun x=>Value.ref x.2.1) (fun R' E' hR=>kdu_collect (aE0 hsm) (I.ok.hd hc) raw hz fun h' tk acc kk hacc=>?_) (by rw [hp.1];exact h64) (fun i j hi hj e=>?_) (fun l2 s' h' kp=>a78 hM hB l2 ⟨hp.1,fun i p ei=>?_⟩) fun q h1 tk h' c P u k1 k2 ho=>ahN I g rds vi nd h64 hM hB k h P u k1 k2 ho
        . rw [hall acc hacc];exact hR h' tk kk
        . rw [hp.1] at hi hj;exact am9 nd hM hB i j hi hj e
        . obtain ⟨a,o,n,x,y,z1,z2,z3,z4⟩:=hp.2 i p ei;exact ⟨a,o,n,x,y,z1,kp _ _ z2,z3,z4⟩
    . exact q.elim
  . exact q.elim
end
end
section
open Builtin.Str
section
variable {prog:Program} {w:World} {A:Around} {E:Value->Shared->Prop} {s:Shared}
end
section
variable {X:Cx}
noncomputable def aLF:RM3:=fun x xs G R=>match x,xs with
  | .str a,[.str b]=>(b.length == 0)=false/\a.length+2<=sizeLine/\(Txt.split a b).length<=sizeLine/\∀ q,G q=none->R (.ref q) (aL G q (.lst ((Txt.split a b).map D.str)))
  | _,_=>False
noncomputable def aAA:List D->Gp->j4->Prop:=fun xs G R=>match xs with
  | [.int i]=>i.natAbs.log2 < 1920/\R (.str (toString i)) G
  | [.str z]=>R (.str z) G
  | _=>False
theorem af9:wM X (.type "str") (fun xs H Q=>(∃ i,xs=[.int i]/\i.natAbs.log2 < 1920/\Q (.str (toString i)) H)∨∃ z,xs=[.str z]/\Q (.str z) H):=by
  intro pins s σ H xs us Q I r h;rcases h with ⟨i,rfl,hz,q⟩ | ⟨z,rfl,q⟩
  . obtain ⟨u,rfl,t,rfl⟩:=vals1 r;exact PySem.P.str_of_int hz ⟨.str _,H,I.tok _,⟨_,rfl⟩,q⟩
  . obtain ⟨u,rfl,t,rfl⟩:=vals1 r;exact PySem.P.str_of_str ⟨.str _,H,I,⟨_,rfl⟩,q⟩
theorem aJO:cU X (.type "str") aAA:=cU.of af9 fun H xs vs G R Q rx g q k=>by
  cases rx with
  | nil=>exact False.elim q
  | cons r rr =>
    cases rr with
    | cons _ _=>cases r <;> exact False.elim q
    | nil =>
      cases r with
      | int i=>exact .inl ⟨i,rfl,q.1,fun _=>k _ H _ G (.refl H) (.str _) g q.2⟩
      | str z=>exact .inr ⟨z,rfl,fun _=>k _ H _ G (.refl H) (.str _) g q⟩
      | _=>exact False.elim q
noncomputable def amA:List D->Gp->j4->Prop:=fun xs G R=>match xs with
  | [.ref q]=>(match bY G q with
    | some ds=>R (.tup ds) G
    | none=>False)
  | _=>False
theorem axF:cU X (.type "tuple") amA:=cU.of acG fun H xs vs G R Q rx g q k=>by
  cases rx with
  | nil=>exact False.elim q
  | cons r rr =>
    cases rr with
    | cons _ _=>cases r <;> exact False.elim q
    | nil =>
      cases r with
      | ref a =>
        have q':(match bY G a with
          | some ds=>R (.tup ds) G
          | none=>False):=q
        split at q'
        . rename_i ds e1;obtain ⟨xs,h1,r1⟩:=d8 g e1;refine ⟨a,xs,rfl,.inl ⟨h1,fun l hl kf=>?_⟩⟩;have sn:Same H (upd H l (.tup xs)):=bU hl;exact k _ _ _ _ (.same sn) (.tup (SqT.of aJ) (r1.mono (.same sn)) (ak6 aJ)) (g.same sn) q'
        . exact q'.elim
      | _=>exact False.elim q
end
end
section
section
variable {X:Cx} {pins:List (Addr×Obj)} {σ:St} {H:Hp} {s:Shared} {tl:List (Addr×List V)}
end
end
variable {its:Array Value}
section
open PySem.W
variable {x:Key×Value}{ps:List (Key×Value)}
section
variable {prog:Program} {w:World} {A:Around} {E:Value->Shared->Prop} {s:Shared}
noncomputable def adY (xs ps:List (Key×Value)):List (Key×Value):=ps.foldl (fun acc x=>stored acc x.1 x.2) xs
theorem afA {xs:List (Key×Value)} (hm:h.DictOf (aP prog w) d xs) (k:∀ o,h.get? d=some o->h'.get? d=some o):h'.DictOf (aP prog w) d xs:=by
  obtain ⟨o,es,ep,h1,r⟩:=hm;exact ⟨o,es,ep,k _ h1,r⟩
noncomputable def arW (prog:Program) (w:World) (I d:Addr) (h:Heap) (v:Value) (x:Key×Value):Prop:=∃ p o n key,v = .ref p/\h.get? p=some o/\o.cls = .type "tuple" /\ o.data = .seq #[key,x.2] n/\(aP prog w).is x.1 key=true/\p≠I/\p≠d
theorem arW.keep (q:arW prog w I d h v x) (k:∀ b o,b≠d->b≠I->h.get? b=some o->h'.get? b=some o):arW prog w I d h' v x:=by
  obtain ⟨p,o,n,key,e,h1,h2,h3,h4,h5,h6⟩:=q;exact ⟨p,o,n,key,e,k _ _ h6 h5 h1,h2,h3,h4,h5,h6⟩
theorem arX {R:Result->Shared->Prop} (hh:A.handled=none) (hdI:d≠I) (hlI:l≠I) (lV:l≠d) (hlen:its.size=ps.length) :
    ∀ (k i:Nat) (s:Shared) (xs:List (Key×Value)) (j:Int) (t:Tok),ps.length - i=k->i<=ps.length->s.heap.IsListIter I l i->s.heap.IsList l its->s.heap.DictOf (aP prog w) d xs->xs.length+(ps.length - i)<=sizeLine ->
      (∀ (i:Nat) (v:Value) (x:Key×Value),its[i]?=some v->ps[i]?=some x->arW prog w I d s.heap v x) ->
      (∀ h' tk,h'.DictOf (aP prog w) d (adY xs (ps.drop i))->(∀ b o,b≠d->b≠I->s.heap.get? b=some o->h'.get? b=some o)->R (.ok (.ret .none)) { s with heap:=h',toks:=tk }) ->
      codeAny (model prog w) A (.builtin "dict.update.loop" ⟨[.ref d,.ref I,.int j t,.none],[]⟩) R s:=by
  intro k
  induction k with
  | zero =>
    intro i s xs j t hk hi hst hl hd hz hp hR;have hin:i=ps.length:=by omega
    refine codeAny_builtin ahL ?_;rw [Around.under_plainId a5T _];show wpAny _ A.in1 (pyNext (.ref I) >>= _) _ _ s;have W:=Walks.list (prog:=prog) (w:=w) (A:=A.in1) hh I l hlI its;refine aj (W.done s _ _ (by rw [hlen,← hin];exact ⟨hst,hl⟩) fun h' tk kk=>?_);have hd':h'.DictOf (aP prog w) d xs:=afA hd (fun o e=>kk _ _ (by simpa using hdI) e);show wpAny _ A.in1 (Builtin.Dict.addKeywords d [] >>= _) _ _ _;refine aj (aq (aq ?_));refine hR h' tk (by rw [hin,List.drop_length];exact hd') fun b o h1 h2 e=>kk b o (by simpa using h2) e
  | succ k ih =>
    intro i s xs j t hk hi hst hl hd hz hp hR;have hlt:i < ps.length:=by omega
    refine codeAny_builtin ahL ?_;rw [Around.under_plainId a5T _];show wpAny _ A.in1 (pyNext (.ref I) >>= _) _ _ s;have W:=Walks.list (prog:=prog) (w:=w) (A:=A.in1) hh I l hlI its;refine aj (W.item i s _ _ (by omega) ⟨hst,hl⟩ fun v h' tk hP hst' kk=>?_);obtain ⟨x,hxi⟩:∃ x,ps[i]?=some x:=⟨_,dg hlt⟩;have k1:∀ b o,b≠d->b≠I->s.heap.get? b=some o->h'.get? b=some o:=fun b o _ h2 e=>kk b o (by simpa using h2) e;have hd':h'.DictOf (aP prog w) d xs:=afA hd (fun o e=>kk _ _ (by simpa using hdI) e);obtain ⟨p,o,n,key,rfl,q1,q2,q3,hkey,_,_⟩:=(hp i v x hP hxi).keep k1;refine aj (wpAny_holding (aj (wpAny_tryCatch ?_)));unfold Builtin.Dict.pairItems;refine aj (wpAny_typeOf (s:={ s with heap:=h',toks:=tk }) (T := "tuple") ⟨o,q1,q2⟩ ?_);rw [if_pos (by decide)];refine aj (wpAny_seqItems (s:={ s with heap:=h',toks:=tk }) q1 q3 (aq ?_));show wpAny _ A.in1 (holding [key,x.2] (dictSet d key x.2)) _ _ _;refine wpAny_holding (wpAny_dictSet_pairs (s:={ s with heap:=h',toks:=tk }) hkey hd' (fun h2 hd2 hs2=>?_) (by omega));have k2:∀ b o,b≠d->b≠I->s.heap.get? b=some o->h2.get? b=some o:=fun b o h1 hI e=>(hs2.2 b h1).trans (k1 b o h1 hI e);refine aq ⟨plainId_quiet a5T _,ih (i+1) _ (stored xs x.1 x.2) _ _ (by omega) hlt (hst'.1.at fun o e=>(hs2.2 I (Ne.symm hdI)).trans e) (hst'.2.at fun o e=>(hs2.2 l lV).trans e) hd2 (by have:=stored_length_le xs x.1 x.2;omega) (fun i v x e1 e2=>(hp i v x e1 e2).keep k2) fun h3 tk3 hd3 k3=>?_⟩;refine hR h3 tk3 ?_ fun b o h1 hI e=>k3 b o h1 hI (k2 b o h1 hI e)
    have:ps.drop i=x :: ps.drop (i+1):=by
      rw [List.drop_eq_getElem_cons hlt];rw [dg hlt] at hxi;cases hxi;rfl
    rw [this];exact hd3
noncomputable def axG (prog:Program) (w:World) (h:Heap) (v:Value) (x:Key×Value):Prop:=∃ p o n key,v = .ref p/\h.get? p=some o/\o.cls = .type "tuple" /\ o.data = .seq #[key,x.2] n/\(aP prog w).is x.1 key=true
theorem axG.ok (q:axG prog w h v x) (hI:h.objs.size<=I) (hd:h.objs.size<=d) (k:∀ b o,h.get? b=some o->h'.get? b=some o):arW prog w I d h' v x:=by
  obtain ⟨p,o,n,key,e,h1,h2,h3,h4⟩:=q;have l1:=bh h1;exact ⟨p,o,n,key,e,k _ _ h1,h2,h3,h4,dw (dz l1 hI),dw (dz l1 hd)⟩
theorem arY {o:Obj} (hh:A.handled=none) (hl:s.heap.get? l=some o) (hc:o.cls = .type "list") (hdat:o.data = .seq its n) (hdn:o.dict=none) (hlen:its.size=ps.length) (hz:ps.length<=sizeLine)
    (hp:∀ (i:Nat) (v:Value) (x:Key×Value),its[i]?=some v->ps[i]?=some x->axG prog w s.heap v x)
    (h:∀ h' tk,h'.DictOf (aP prog w) s.heap.objs.size (adY [] ps)->(∀ b o,s.heap.get? b=some o->h'.get? b=some o)->Q (.ref s.heap.objs.size) { s with heap:=h',toks:=tk }) :
    wpAny (model prog w) A (call (.type "dict") [.ref l]) Q E s:=by
  refine callType_codes (Q₁:=fun obj s₁=>obj = .ref s.heap.objs.size/\s₁={ s with heap:=s.heap.push { cls := .type "dict",data := .dict #[] } }) F.kt_called_dict (F.kt_typeCall_dict_1 _) F.entry_dict_init (kt_code_dict_new _ ⟨rfl,rfl⟩) ?_;rintro obj s₁ ⟨rfl,rfl⟩;have kp:∀ b o,s.heap.get? b=some o->(s.heap.push { cls := .type "dict",data := .dict #[] }).get? b=some o:=fun b o e=>ao _ e;have hnew:(s.heap.push { cls := .type "dict",data := .dict #[] }).DictOf (aP prog w) s.heap.objs.size []:=Heap.DictOf.new s.heap;have hdl:l≠s.heap.objs.size:=dw (bh hl);refine ⟨hnew.typeIs,F.args_dict_init_2 _ _,?_⟩;unfold Builtin.«dict.__init__»;refine aj ?_;unfold Builtin.Dict.selfAndRest;refine aj (wpAny_notOrdered_dict hnew.typeIs ?_);show wpAny _ _ (pure (s.heap.objs.size,[Value.ref l])) _ _ _;refine aq ?_;show wpAny _ _ (Builtin.Dict.updateFrom "dict.__init__" s.heap.objs.size (.ref l) [] .none) _ _ _;unfold Builtin.Dict.updateFrom;refine aj (wpAny_typeOf (T := "list") ⟨o,kp _ _ hl,hc⟩ ?_);rw [if_pos (by decide)];refine aj (axA (kp _ _ hl) hc hdat hdn hh fun h' tk k1=>?_);rw [if_pos (by rfl)];refine aj (wpAny_rule ?_);have hl1:h'.IsList l its:=⟨o,k1 _ _ (kp _ _ hl),hc,n,hdat⟩;refine aj (wpAny_pyIter_list (s:={ s with heap:=h',toks:=tk }) hl1 ?_);have k2:∀ b o,s.heap.get? b=some o->(h'.push { cls := .type "list_iterator",data := .fields #[.ref l,rawInt 0] }).get? b=some o:=fun b o e=>ao _ (k1 _ _ (kp _ _ e));have sz1:s.heap.objs.size < h'.objs.size:=bh (k1 s.heap.objs.size _ (cg _ rfl));refine aq ⟨plainId_quiet a5T _,arX (A:=A.in1) (its:=its) (ps:=ps) hh (dw sz1) (dw (bh hl1.choose_spec.1)) hdl hlen ps.length 0 _ [] _ _ rfl (lu _) ⟨_,cg _ rfl,rfl,rfl⟩ (hl1.at fun o e=>ao _ e) (afA hnew (fun o e=>ao _ (k1 _ _ e))) (by simp;omega) (fun i v x e1 e2=>(hp i v x e1 e2).ok (qb sz1) (au _) k2) fun h3 tk3 hd3 k3=>?_⟩;exact ⟨rfl,h h3 tk3 hd3 fun b o e=>k3 b o (dw (bh e)) (dw (Nat.lt_trans (bh e) sz1)) (k2 b o e)⟩
end
noncomputable def aAB:D->Option (Key×D)
  | .tup [y,z]=>(match arL y with
    | some k=>some (k,z)
    | none=>none)
  | _=>none
noncomputable def a7B:List D->Option (List (Key×D))
  | []=>some []
  | d :: r=>match aAB d,a7B r with
    | some p,some ps=>some (p :: ps)
    | _,_=>none
noncomputable def aaR (kvs:List (DK×D)) (ps:List (Key×D)):List (DK×D):=ps.foldl (fun acc p=>dR acc (.inl p.1) p.2) kvs
inductive aoM (K:Fg) (H:Hp):List (Key×D)->List (Key×Value)->Prop where
  | nil:aoM K H [] []
  | cons {k:Key} {vz:V} {u:Value} {d:D} {kvs:List (Key×D)} {ps:List (Key×Value)}:RD K H d vz->RelV vz u->aoM K H kvs ps->aoM K H ((k,d) :: kvs) ((k,u) :: ps)
theorem aoN (ps:List (Key×Value)):∀ xs,(adY xs ps).length<=xs.length+ps.length:=by
  induction ps with
  | nil=>intro xs;simp [adY]
  | cons p r ih =>
    intro xs;have:=ih (stored xs p.1 p.2);have:=stored_length_le xs p.1 p.2;simp only [adY,List.foldl_cons,ju] at *;omega
theorem aoM.fold {K:Fg} {kvs:List (Key×D)} (h:aoM K H kvs ps):∀ {k0:List (DK×D)} {y0:List (Key×V)} {p0:List (Key×Value)},KV y0 p0->v7 K H .inl k0 y0->∃ ys,KV ys (adY p0 ps)/\v7 K H .inl (aaR k0 kvs) ys:=by
  induction h with
  | nil=>intro k0 y0 p0 a b;exact ⟨y0,a,b⟩
  | @cons k vz u d kvs ps rd rv _ ih =>
    intro k0 y0 p0 a c;exact ih (KV.put a k rv) (a5P pO rd c)
section
variable {X:Cx}
theorem amB {pins:List (Addr×Obj)} {σ:St} {H:Hp} {s:Shared} (I:Inv X pins σ H s):∀ {ds:List D} {zs:List V} {its:List Value} {kvs:List (Key×D)},cN X.K H ds zs->Vals zs its->a7B ds=some kvs ->
    ∃ ps,aoM X.K H kvs ps/\its.length=ps.length/\∀ (i:Nat) (v:Value) (x:Key×Value),its[i]?=some v->ps[i]?=some x->axG X.prog X.w s.heap v x
  | _,_,_,_,.nil,.nil,e=>by cases e;exact ⟨[],.nil,rfl,fun i v x e=>by simp at e⟩
  | d :: ds,z :: zs,u :: its,kvs,.cons r rs,.cons v vs,e=>by
    unfold a7B at e;split at e
    . rename_i p ps' e1 e2;cases e;obtain ⟨ps,hp,hl,hq⟩:=amB I rs vs e2;unfold aAB at e1;split at e1
      . rename_i y z';split at e1
        . rename_i k e3;cases e1;cases r with
          | @tup a xs _ sq rr _ =>
          obtain rfl:u=Value.ref a:=v;cases rr with
          | cons r1 rr =>
          cases rr with
          | @cons _ vz _ _ r2 rr =>
          cases rr;have ek:=am1 r1 e3;subst ek;obtain ⟨i2,vi,⟨o,h1,h2,n,h3⟩,_⟩:=I.tuple sq;cases vi with
          | @cons _ uk _ _ va vi =>
          cases vi with
          | @cons _ uz _ _ vb vi =>
          cases vi;refine ⟨(k,uz) :: ps,.cons r2 vb hp,by simp [hl],fun i v x e1 e2=>?_⟩;cases i with
          | zero =>
            simp at e1 e2;subst e1 e2;exact ⟨a,o,n,uk,rfl,h1,h2,by simpa using h3,a5D va⟩
          | succ i=>exact hq i v x (by simpa using e1) (by simpa using e2)
        . cases e1
      . cases e1
    . cases e
noncomputable def yN:List D->Gp->j4->Prop:=fun xs G R=>match xs with
  | [.ref a]=>(match bY G a with
    | some ds=>(match a7B ds with
      | some kvs=>∀ r,G r=none->R (.ref r) (aL G r (.bQ false (aaR [] kvs)))
      | none=>False)
    | none=>False)
  | _=>False
theorem axH (hc:X.calm=true):cU X (.type "dict") yN:=by
  intro pins s σ H xs vs us G R Q I rx rv g q k;unfold yN at q;split at q
  . rename_i a;split at q
    . rename_i ds e1;split at q
      . rename_i kvs e2;cases rx with
        | cons r1 rr =>
        cases rr;cases r1;cases rv with
        | cons rv rr =>
        cases rr;cases rv;obtain ⟨zs,hq,r⟩:=d8 g e1;obtain ⟨its,vi,⟨o,n,h1,h2,h3,h4⟩,hz⟩:=I.list hq;obtain ⟨ps,hp,hl,hat⟩:=amB I r vi e2;have hpz:ps.length<=sizeLine:=by rw [← hl,← vi.length];exact hz
        refine arY (I.ok.hd hc) h1 h2 h4 h3 (by simpa using hl) hpz (fun i v x e1 e2=>hat i v x (by simpa using e1) e2) fun h' tk hd kk=>?_;obtain ⟨ys,kt,tw⟩:=hp.fold (k0:=[]) (y0:=[]) (p0:=[]) .nil .nil;have fr:H s.heap.objs.size=none:=I.hok.fresh (au _);have sn:Same H (upd H s.heap.objs.size (.dK ys)):=bU fr;have hys:ys.length<=sizeLine:=by rw [KV.length kt];have:=aoN ps [];simp at this;omega
        have J:Inv X pins σ (upd H s.heap.objs.size (.dK ys)) { s with heap:=h',toks:=tk }:=I.laid (t':=tk) (o := .dK ys) kk (au _) ⟨hys,(by have:=I.big;simp;exact wu this),_,kt,hd⟩;exact ⟨.ref s.heap.objs.size,_,J,rfl,k _ _ (.ref _) _ (.same sn) (.ref _) (g.put (u := .bQ false _) fr (.inl ⟨rfl,ys,aJ,tw.imp fun _ _ z=>⟨z.1,z.2.mono (.same sn)⟩⟩)) (q _ (nQ g fr (wN J)))⟩
      . exact q.elim
    . exact q.elim
  . exact q.elim
end
end
section
open PySem.W
section
variable {prog:Program} {w:World} {A:Around} {E:Value->Shared->Prop} {s:Shared}
end
section
variable {X:Cx}
end
end
section
open PySem.W
section
variable {prog:Program} {w:World} {A:Around} {E:Value->Shared->Prop} {s:Shared}
theorem arZ {CV:List Value->Heap->Prop}
    (aE5:∀ (R:List Value->Shared->Prop) (E:Value->Shared->Prop),(∀ vs h' tk,(∀ b o,s.heap.get? b=some o->h'.get? b=some o)->CV vs h'->R vs { s with heap:=h',toks:=tk })->wpAny (model prog w) A.in1 (collect (.ref r)) R E s)
    (hm:∀ vs h1 tk,(∀ b o,s.heap.get? b=some o->h1.get? b=some o)->CV vs h1->vs.length < 64/\∃ kf:Nat->Int,(∀ i j,i < vs.length->j < vs.length->kf i=kf j->i=j) /\
      (2<=vs.length->∀ (s':Shared) (h':Heap),(∀ b o,h1.get? b=some o->h'.get? b=some o)->ahK prog w A.in1.in1 s' kf vs h') /\
      ∀ (q:Array Nat) (h':Heap) (c:Nat),Pm vs.length q->Up kf q vs.length->(∀ b o,h1.get? b=some o->h'.get? b=some o)->h'.get? h1.objs.size=some (seqObj "list" (q.toList.map fun i=>vs.getD i Value.none).toArray c)->Q (.ref h1.objs.size) { s with heap:=h',toks:=tk }):wpAny (model prog w) A (call (.builtin "sorted") [.ref r]) Q E s:=by
  have big:1000 < sizeLine:=by decide
  refine Calls.call_function_entry kind_sorted plain_sorted entry_sorted (args_sorted1 _) ?_;unfold Builtin.«sorted»;refine aj (m:=checkCount "sorted" 1 1 _) (aq (aj (aE5 _ _ fun vs h1 tk k1 cv=>?_)));obtain ⟨h64,kf,hd,hk,h⟩:=hm vs h1 tk k1 cv;refine aj (wpAny_newList ?_ (by omega));have oL:(h1.push (seqObj "list" vs.toArray 0)).get? h1.objs.size=some (seqObj "list" vs.toArray 0):=cg _ rfl;refine aj (wpAny_holding (wpAny_call_entry (s:={ s with heap:=h1.push (seqObj "list" vs.toArray 0),toks:=tk }) slot_list_sort ⟨_,oL,rfl⟩ entry_list_sort (aaO (kf:=kf) (s:={ s with heap:=h1.push (seqObj "list" vs.toArray 0),toks:=tk }) oL h64 hd (fun l2 h' k'=>?_) fun q P u=>⟨_,rfl,aq ⟨_,rfl,?_⟩⟩) (args_list_sort _)))
  . exact hk l2 _ h' fun b o e=>k' b o (dw (bh e)) (ao _ e)
  . obtain ⟨c,hc⟩:=arV (h:=h1) (vs:=vs) (out:=(q.toList.map fun i=>vs.getD i Value.none).toArray);exact h q _ c P u (fun b o e=>am8 e) hc
end
variable {p:Pos}
section
variable {X:Cx}
theorem Inv.grown {σ:St} (I:Inv X pins σ H s) (k:∀ b u,s.heap.get? b=some u->h'.get? b=some u) (hs:Same H H') (hn:∀ b u,H' b=some u->H b=some u∨(s.heap.objs.size<=b/\gQ X.prog X.w H' h' b u)):Inv X pins σ H' { s with heap:=h',toks:=t' }:=by
  refine I.un ⟨fun b ob q _ _ _=>k b ob q,fun b ob q _ _ _=>⟨ob.slots,k b ob q⟩,fun b ob q n _=>?_,fun b ob q _=>⟨ob,k b ob q⟩,fun b xs q=>hs _ _ q,fun b o u q=>hs _ _ q,fun b ps q=>⟨#[],by rw [hs _ _ q];simp⟩⟩ fun a o e=>?_
  . cases z:H' b with
    | none=>rfl
    | some u =>
      rcases hn b u z with w | ⟨w,_⟩
      . rw [n] at w;cases w
      . exact absurd (bh q) (Nat.not_lt.mpr w)
  . rcases hn a o e with w | ⟨_,w⟩
    . exact (I.hok a o w).stay (fun c v _ q=>k c v q) (fun c q=>hs _ _ q) fun c xs q=>hs _ _ q
    . exact w
theorem aoO {σ:St} (I:Inv X pins σ H s) (k:∀ b u,s.heap.get? b=some u->h1.get? b=some u) {as:List Addr} {ys:Nat->List V} {us:Nat->List Value} (nd:as.Nodup) (hi:∀ a∈as,s.heap.objs.size<=a)
    (ht:∀ j a,as[j]?=some a->Vals (ys j) (us j)/\(ys j).length<=sizeLine/\IsTup h1 a (us j).toArray):∃ H1,Inv X pins σ H1 { s with heap:=h1,toks:=tk }/\Same H H1/\∀ j a,as[j]?=some a->H1 a=some (.tup (ys j)):=by
  have fr:∀ a∈as,H a=none:=fun a ha=>I.hok.fresh (hi a ha)
  let H1:Hp:=fun b=>if b∈as then some (.tup (ys (as.idxOf b))) else H b
  have sm:Same H H1:=fun b o e=>by
    show (if b∈as then _ else _)=_;rw [if_neg]
    . exact e
    . intro z;rw [fr b z] at e;cases e
  have at1:∀ j a,as[j]?=some a->H1 a=some (.tup (ys j)):=fun j a e=>by
    obtain ⟨hj,e2⟩:=fj.mp e;show (if a∈as then _ else _)=_;rw [if_pos (je e),← e2,nd.idxOf_getElem]
  refine ⟨H1,I.grown k sm fun b u e=>?_,sm,at1⟩;by_cases z:b∈as
  . right;refine ⟨hi b z,?_⟩;obtain ⟨j,hj⟩:=List.mem_iff_getElem?.mp z;have e3:=at1 j b hj;rw [e3] at e;cases e;obtain ⟨t1,t2,t3⟩:=ht j b hj;exact ⟨t2,us j,t1,t3⟩
  . left;have e':(if b∈as then some (.tup (ys (as.idxOf b))) else H b)=some u:=e;rw [if_neg z] at e';exact e'
noncomputable def jC (p:Int×Int):DK×D:=(.inl (.inl p.1),.int p.2)
theorem afB {K:Fg} {H:Hp}:∀ {ps:List (Int×Int)} {ys:List (Key×V)},v7 K H .inl (ps.map jC) ys->ys=ps.map fun p=>(.inl p.1,.int p.2)
  | [],_,.nil=>rfl
  | p :: ps,y :: ys,.cons h r=>by
    obtain ⟨k,v⟩:=y;obtain ⟨h1,h2⟩:=h
    have e1:(Sum.inl p.1:Key)=k:=by
      have:(Sum.inl (Sum.inl p.1):DK) = .inl k:=h1;exact pO _ _ this
    cases h2;rw [afB r,← e1];rfl
theorem a8D:∀ {ps:List (Int×Int)} {vs:List (Key×Value)},KV (ps.map fun p=>((.inl p.1:Key),V.int p.2)) vs->vs.length=ps.length/\vs.map (·.1)=ps.map (fun p=>(.inl p.1:Key))/\∀ (j:Nat) (p:Int×Int),ps[j]?=some p->∃ t,vs[j]?=some (.inl p.1,Value.int p.2 t)
  | [],_,.nil=>⟨rfl,rfl,fun j p e=>by simp at e⟩
  | p :: ps,v :: vs,.cons h r=>by
    obtain ⟨a1,a2,a3⟩:=a8D r;obtain ⟨k,u⟩:=v;obtain ⟨h1,t,h2⟩:=h;cases h1;cases h2;refine ⟨by simp [a1],by simp [a2],fun j q e=>?_⟩;cases j with
    | zero=>simp at e;subst e;exact ⟨t,rfl⟩
    | succ j=>exact a3 j q (by simpa using e)
theorem ahO {K:Fg} {H:Hp}:∀ {ps:List (Int×Int)} {as:List Addr},as.length=ps.length->(∀ (j:Nat) (a:Addr) (p:Int×Int),as[j]?=some a->ps[j]?=some p->H a=some (.tup [.int p.1,.int p.2]))->cN K H (ps.map prV) (as.map V.ref)
  | [],[],_,_ => .nil
  | p :: ps,a :: as,hl,h=>by
    have e:=h 0 a p rfl rfl;exact .cons (.tup (.inl (.of e)) (.cons (.int _) (.cons (.int _) .nil)) (ak6 e)) (ahO (by simpa using hl) fun j b q e1 e2=>h (j+1) b q (by simpa using e1) (by simpa using e2))
theorem amC:∀ as:List Addr,Vals (as.map V.ref) (as.map Value.ref)
  | [] => .nil
  | _ :: r => .cons rfl (amC r)
theorem akG {σ:St} {Q:VK} (hc:X.calm=true) (I:Inv X pins σ H s) (g:HR X.K H G) (e:G a=some (.bQ false (ps.map jC))) (h64:ps.length < 64) (hv:s.heap.IsItemsView r a)
    (h:∀ qs:List (Int×Int),qs.Perm ps->pP qs->∀ r,G r=none->R (.ref r) (aL G r (.lst (qs.map prV)))) (k:∀ v H' d G',Ts H H'->RD X.K H' d v->HR X.K H' G'->R d G'->Q v H'):wpAny (model X.prog X.w) X.A (call (.builtin "sorted") [.ref r]) (EP X pins σ Q) X.xe s:=by
  have big:1000 < sizeLine:=by decide
  rcases g a _ e with ⟨_,ys,e1,tw⟩ | ⟨z,_⟩
  . have ey:=afB tw;subst ey;obtain ⟨z1,hsm,vs,kv,hd⟩:=aa0 I.hok e1;obtain ⟨l1,l2,l3⟩:=a8D kv;obtain ⟨o,es,ep,q1,q2,q3,q4,q5,q6⟩:=hd;have hat:s.heap.DictAt (aP X.prog X.w) a vs ep:=⟨o,es,q1,q2,q3,q4,q5,q6⟩;have nk:(ps.map fun p=>(.inl p.1:Key)).Nodup:=by rw [← l2];exact q6
    have nd:ps.Nodup:=(yj.mp nk).imp fun h z=>h (by rw [z]);refine arZ (CV:=fun us h'=>∃ as:List Addr,us=as.map Value.ref/\as.length=ps.length/\KdxG (aP X.prog X.w) vs s.heap.objs.size h' as) (fun R' E' hR=>kdx_collect (I.ok.hd hc) hv hat (by omega) fun h' tk as kk hl hG=>hR _ h' tk kk ⟨as,rfl,hl.trans l1,hG⟩) fun us h1 tk k1 cv=>?_;obtain ⟨as,rfl,hl,hG⟩:=cv
    have ex:∀ j:Nat,∃ uu:List Value,∀ b,as[j]?=some b->Vals [V.int (ps.getD j (0,0)).1,V.int (ps.getD j (0,0)).2] uu/\IsTup h1 b uu.toArray:=fun j=>by
      cases ea:as[j]? with
      | none=>exact ⟨[],fun b z=>by cases z⟩
      | some b =>
        obtain ⟨key,kk,x,p1,p2,p3⟩:=hG.pairs j b ea;have hj:j < ps.length:=by rw [← hl];exact (fj.mp ea).1
        obtain ⟨t,p4⟩:=l3 j ps[j] (dg hj);rw [p4] at p1;cases p1;have gd:ps.getD j (0,0)=ps[j]:=getD_at hj;refine ⟨[key,Value.int ps[j].2 t],fun b' z=>?_⟩;cases z;rw [gd];refine ⟨.cons ?_ (.cons ⟨t,rfl⟩ .nil),⟨_,p3,rfl,_,rfl⟩⟩;rcases d9 (show a87 (Sum.inl ps[j].1) key=true from p2) with ⟨i,t',e1,e2⟩ | ⟨i,t',e1,e2⟩
        . cases e1;exact ⟨t',e2⟩
        . cases e1
    obtain ⟨us,hus⟩:=Classical.axiomOfChoice ex;obtain ⟨H1,I1,sm,at1⟩:=aoO (tk:=tk) I k1 (as:=as) (ys:=fun j=>[V.int (ps.getD j (0,0)).1,V.int (ps.getD j (0,0)).2]) (us:=us) (hG.rise.imp dw) (fun b hb=>qb (hG.above b hb)) fun j b e=>⟨(hus j b e).1,by show 2<=sizeLine;omega,(hus j b e).2⟩
    have rds:cN X.K H1 (ps.map prV) (as.map V.ref):=ahO hl fun j b p e1 e2=>by
      have z:=at1 j b e1;obtain ⟨hj,e3⟩:=fj.mp e2;rw [getD_at hj,e3] at z;exact z
    have vi:=amC as;obtain ⟨B,b0,hB⟩:=a5R ps;have hp:=pairs_at I1 rds vi;have hM:2 * B < 2 * B+1:=by omega
    have g1:HR X.K H1 G:=g.same sm;refine ⟨by rw [hp.1];exact h64,fun i=>enc (2 * B+1) (ps.getD i (0,0)),fun i j hi hj e=>?_,fun l2 s' h' kp=>a78 hM hB l2 ⟨hp.1,fun i p ei=>?_⟩,fun q h' c P u k2 ho=>?_⟩
    . rw [hp.1] at hi hj;exact am9 nd hM hB i j hi hj e
    . obtain ⟨a,o,n,x,y,z1,z2,z3,z4⟩:=hp.2 i p ei;exact ⟨a,o,n,x,y,z1,kp _ _ z2,z3,z4⟩
    . exact ahN (s:={ s with heap:=h1,toks:=tk }) (h1:=h1) (tk:=tk) I1 g1 rds vi nd h64 hM hB (fun v H' d G' t=>k v H' d G' ((Ts.same sm).trans t)) h P u (fun _ _ z=>z) k2 ho
  . cases z
noncomputable def yO (x:D) (G:Gp) (R:j4):Prop:=match x with
  | .ref a=>(match G a with
    | some (.bQ false kvs)=>∃ ps:List (Int×Int),kvs=ps.map jC/\ps.length < 64/\∀ qs:List (Int×Int),qs.Perm ps->pP qs->∀ r,G r=none->R (.ref r) (aL G r (.lst (qs.map prV)))
    | _=>False)
  | _=>False
theorem akH (h:yO x G R):∃ a,∃ ps:List (Int×Int),x = .ref a/\G a=some (.bQ false (ps.map jC))/\ps.length < 64/\∀ qs:List (Int×Int),qs.Perm ps->pP qs->∀ r,G r=none->R (.ref r) (aL G r (.lst (qs.map prV))):=by
  unfold yO at h;split at h
  . split at h
    . rename_i e;obtain ⟨ps,rfl,h1,h2⟩:=h;exact ⟨_,ps,rfl,e,h1,h2⟩
    . exact h.elim
  . exact h.elim
noncomputable def a5U (to:cL):cL:=fun ρ G R=>to ρ G fun x G1=>yO x G1 R
theorem amD {K:Fg} (g:HR K H G) (e:G a=some (.bQ false kvs)):IsD H a:=by
  rcases g a _ e with ⟨_,ys,e1,_⟩ | ⟨z,_⟩
  . exact .inl ⟨ys,.of e1⟩
  . cases z
theorem axI {x:Str} (hc:X.calm=true) (ho:cR X o to) (hg:Gl X x) (hm:X.mg x=none) (hv:bootBuiltins x=some (.builtin "sorted")) (hn:x ≠ "__name__") (hdb:(x == ("__debug__" : Str))=false)
    (hbase:attributeBase o "items" X.env (eval o X.env)=eval o X.env) (hline:(apos.endLine == cpos.line)=true) :
    cR X (.Call (.Name x p) [.Call (.Attribute o "items" apos) [] [] cpos] [] pos) (a5U to):=by
  intro pins s σ H Q I h;obtain ⟨ρ,G,R,sr,g,q,kk⟩:=h;refine wpAny_Call_Name_kw (a3P I hg hm hv ?_ hn hdb);refine PyProof.Rows.callWith_builtin1 (Calls.spliced_cons ?_);refine wpAny_Call_method0_late hbase hline (f9 (ho pins s σ H (fun vx H1=>Ts H H1/\∃ x G1,RD X.K H1 x vx/\HR X.K H1 G1/\yO x G1 R) I ⟨ρ,G,_,sr,g,q,fun v H1 x G1 t1 r1 g1 q1=>⟨t1,x,G1,r1,g1,q1⟩⟩) fun v s1 ⟨vx,H1,I1,r1,t1,x1,G1,rx,g1,q1⟩=>?_);obtain ⟨a,ps,rfl,e1,h64,hq⟩:=akH q1;cases rx;obtain rfl:v=Value.ref a:=r1;obtain ⟨h1,h2,h3⟩:=a6W I1 (amD g1 e1);refine ⟨"dict", "dict.items",PySem.F.plainAttrs_dict,PySem.F.slot_dict_items,PySem.F.type_dict_items,h1,h2,Calls.callWith_builtin rfl (PySem.evalArgs_none ?_)⟩;rcases g1 a _ e1 with ⟨_,ys,e2,tw⟩ | ⟨z,_⟩
  . obtain ⟨z1,hsm,vs,kv,hd⟩:=aa0 I1.hok e2;refine call_meetsIn PySem.F.slot_dict_items h1 PySem.F.entry_dict_items (PySem.F.args_dict_items_1 _) (meets_dict_items (aP X.prog X.w) a hsm) ⟨⟨vs,hd⟩,?_⟩;refine Calls.spliced_nil ?_;have I2:Inv X pins σ H1 { s1 with heap:=s1.heap.push { cls := .type "dict_items",data := .fields #[.ref a] },toks:=s1.toks }:=I1.kept fun b o e=>ao _ e;exact akG (s:={ s1 with heap:=s1.heap.push { cls := .type "dict_items",data := .fields #[.ref a] } }) hc I2 g1 e1 h64 ⟨_,cg _ rfl,rfl,rfl⟩ hq fun v H' d G' t=>kk v H' d G' (t1.trans t)
  . cases z
theorem ahP:∀ l:List Int,preSum (fun i=>l.getD i 0) l.length=l.sum
  | []=>rfl
  | x :: l=>by
    rw [ju,kdu_shift,yu,← ahP l];rfl
noncomputable def a0I (x:D) (G:Gp) (R:j4):Prop:=match x with
  | .ref a=>(match G a with
    | some (.bQ false kvs)=>∃ ps:List (Int×Int),kvs=ps.map jC/\R (.int (ps.map (·.2)).sum) G
    | _=>False)
  | _=>False
theorem aoP (h:a0I x G R):∃ a,∃ ps:List (Int×Int),x = .ref a/\G a=some (.bQ false (ps.map jC))/\R (.int (ps.map (·.2)).sum) G:=by
  unfold a0I at h;split at h
  . split at h
    . rename_i e;obtain ⟨ps,rfl,h1⟩:=h;exact ⟨_,ps,rfl,e,h1⟩
    . exact h.elim
  . exact h.elim
noncomputable def afC (to:cL):cL:=fun ρ G R=>to ρ G fun x G1=>a0I x G1 R
theorem aE6 {x:Str} (hc:X.calm=true) (ho:cR X o to) (hg:Gl X x) (hm:X.mg x=none) (hv:bootBuiltins x=some (.builtin "sum")) (hn:x ≠ "__name__") (hdb:(x == ("__debug__" : Str))=false)
    (hbase:attributeBase o "values" X.env (eval o X.env)=eval o X.env) (hline:(apos.endLine == cpos.line)=true) :
    cR X (.Call (.Name x p) [.Call (.Attribute o "values" apos) [] [] cpos] [] pos) (afC to):=by
  intro pins s σ H Q I h;obtain ⟨ρ,G,R,sr,g,q,kk⟩:=h;refine wpAny_Call_Name_kw (a3P I hg hm hv ?_ hn hdb);refine PyProof.Rows.callWith_builtin1 (Calls.spliced_cons ?_);refine wpAny_Call_method0_late hbase hline (f9 (ho pins s σ H (fun vx H1=>Ts H H1/\∃ x G1,RD X.K H1 x vx/\HR X.K H1 G1/\a0I x G1 R) I ⟨ρ,G,_,sr,g,q,fun v H1 x G1 t1 r1 g1 q1=>⟨t1,x,G1,r1,g1,q1⟩⟩) fun v s1 ⟨vx,H1,I1,r1,t1,x1,G1,rx,g1,q1⟩=>?_);obtain ⟨a,ps,rfl,e1,hq⟩:=aoP q1;cases rx;obtain rfl:v=Value.ref a:=r1;obtain ⟨h1,h2,h3⟩:=a6W I1 (amD g1 e1);refine ⟨"dict", "dict.values",PySem.F.plainAttrs_dict,PySem.F.slot_dict_values,PySem.F.type_dict_values,h1,h2,Calls.callWith_builtin rfl (PySem.evalArgs_none ?_)⟩;rcases g1 a _ e1 with ⟨_,ys,e2,tw⟩ | ⟨z,_⟩
  . have ey:=afB tw;subst ey;obtain ⟨z1,hsm,vs,kv,hd⟩:=aa0 I1.hok e2;obtain ⟨l1,l2,l3⟩:=a8D kv;refine call_meetsIn PySem.F.slot_dict_values h1 PySem.F.entry_dict_values (PySem.F.args_dict_values_1 _) (meets_dict_values (aP X.prog X.w) a hsm) ⟨⟨vs,hd⟩,?_⟩;refine Calls.spliced_nil ?_;obtain ⟨o,es,ep,q1,q2,q3,q4,q5,q6⟩:=hd
    let oV:Obj:={ cls := .type "dict_values",data := .fields #[.ref a] }
    have hat:(s1.heap.push oV).DictAt (aP X.prog X.w) a vs ep:=⟨o,es,ao _ q1,q2,q3,q4,q5,q6⟩;have hvw:(s1.heap.push oV).IsValuesView s1.heap.objs.size a:=⟨_,cg _ rfl,rfl,rfl⟩;refine call_sum_walkAnyS ?_;have KS:=kdl_values (prog:=X.prog) (w:=X.w) (knd:=aP X.prog X.w) (r:=s1.heap.objs.size) (d:=a) (kvs:=vs) (ep:=ep);obtain ⟨oI,St,hit,W,st⟩:=KS.iter X.A.in1 { s1 with heap:=s1.heap.push oV } (I1.ok.hd hc) ⟨hvw,hat⟩;refine hit _ _ ⟨(s1.heap.push oV).objs.size,_,_,_,vs.length,_,_,(fun i=>(ps.map (·.2)).getD i 0),rfl,W.toS,st,fun b hb=>?_,?_,fun s' t' hm=>?_⟩
    . show b < ((s1.heap.push oV).push oI).objs.size;rw [size_push'];rcases ig.mp hb with e | hb
      . rw [e];exact Nat.lt_succ_self _
      . rw [jt.mp hb];exact vf (KS.there _ ⟨hvw,hat⟩).2
    . intro i v hP;obtain ⟨k,hk⟩:=hP;have hi:i < ps.length:=by rw [← l1];exact (fj.mp hk).1
      obtain ⟨t,p4⟩:=l3 i ps[i] (dg hi);rw [p4] at hk;cases hk;refine ⟨t,?_⟩;have:(ps.map (·.2)).getD i 0=ps[i].2:=by simp [mq,hi]
      show Value.int ps[i].2 t=Value.int ((ps.map (·.2)).getD i 0) t;rw [this]
    . have hk:∀ b o,s1.heap.get? b=some o->s'.heap.get? b=some o:=fun b o e =>
        hm.heap b o (fun hI=>absurd (bh e) (by have z:=jt.mp hI;rw [z];show ¬ (s1.heap.push oV).objs.size < _;rw [size_push'];exact Nat.not_lt.mpr (yt _))) (ao _ (ao _ e))
      rw [Moved.eq_with hm];have e5:vs.length=(ps.map (·.2)).length:=by rw [dh,l1]
      rw [e5,ahP];exact ⟨.int _,H1,I1.kept hk,⟨t',rfl⟩,kk _ H1 _ G1 t1 (.int _) g1 hq⟩
  . cases z
end
end
variable {M:List (List Key×Addr)}
section
open PySem.W
variable {r:Bool}
section
variable {prog:Program} {w:World} {A:Around} {E:Value->Shared->Prop} {s:Shared}
noncomputable def axJ (prog:Program) (w:World) (A:Around) (s:Shared) (x y:Value) (b:Bool):Prop:=∀ (E:Value->Shared->Prop) (Q:Bool->Shared->Prop),Q b s->wpAny (model prog w) A (eqBool x y) Q E s
noncomputable def eqM (ps qs:List (Int×Int)):Bool:=ps.length == qs.length&&ps.all fun p=>aK qs p.1 == some p.2
theorem amE {i:Int}:∀ qs:List (Int×Int),a05 (qs.map fun p=>((.inl p.1:Key),V.int p.2)) (.inl i)=(aK qs i).map V.int
  | []=>rfl
  | q :: qs=>by
    rw [dj];by_cases c:q.1=i
    . rw [a06 (by rw [c])];show _=(if q.1=i then some q.2 else aK qs i).map V.int;rw [if_pos c];rfl
    . rw [a07 (fun z=>c (by simpa using z)),amE qs];show _=(if q.1=i then some q.2 else aK qs i).map V.int;rw [if_neg c]
theorem a9K {qs:List (Int×Int)} {kb:List (Key×Value)} (hb:KV (qs.map fun p=>((.inl p.1:Key),V.int p.2)) kb):∀ {ps:List (Int×Int)} {ka:List (Key×Value)},KV (ps.map fun p=>((.inl p.1:Key),V.int p.2)) ka->KeqHits A s kb ka (ps.all fun p=>aK qs p.1 == some p.2)
  | [],_,.nil => .nil
  | p :: ps,v :: ka,.cons h r=>by
    obtain ⟨k,u⟩:=v;obtain ⟨h1,t,h2⟩:=h;cases h1;cases h2;have ih:=a9K hb r;have vl:=KV.val hb (.inl p.1);rw [amE] at vl;rw [qm];cases e:aK qs p.1 with
    | none =>
      rw [e] at vl
      have e2:valueAt kb (.inl p.1)=none:=by
        cases z:valueAt kb (.inl p.1) with
        | none=>rfl
        | some y=>rw [z] at vl;exact vl.elim
      exact .miss e2
    | some y =>
      rw [e] at vl;cases z:valueAt kb (.inl p.1) with
      | none=>rw [z] at vl;exact vl.elim
      | some u =>
        rw [z] at vl;obtain ⟨t',e3⟩:∃ t',u=Value.int y t':=vl;subst e3
        have eb:((some y:Option Int) == some p.2)=(p.2 == y):=by
          show (y == p.2)=_;exact Bool.eq_iff_iff.mpr ⟨fun z=>beq_iff_eq.mpr (beq_iff_eq.mp z).symm,fun z=>beq_iff_eq.mpr (beq_iff_eq.mp z).symm⟩
        rw [eb];exact .hit z ((MeetsSeq.EqGives.int _ _ _ _).at _ _) ih
theorem axK {qs:List (Int×Int)} {ka kb:List (Key×Value)} (ha:(a == sysModules)=false) (hb:(b == sysModules)=false) (da:s.heap.DictOf (aP prog w) a ka) (db:s.heap.DictOf (aP prog w) b kb) (va:KV (ps.map fun p=>((.inl p.1:Key),V.int p.2)) ka) (vb:KV (qs.map fun p=>((.inl p.1:Key),V.int p.2)) kb) (hu:A.units < cLine) (sm:a=b->eqM ps qs=true):axJ prog w A s (.ref a) (.ref b) (eqM ps qs):=by
  intro E Q hq;unfold eqBool;refine wpAny_holding ?_;show wpAny _ _ (if (Value.ref a == Value.ref b)=true then _ else _) Q E s;by_cases c:(Value.ref a == Value.ref b)=true
  . rw [if_pos c];have e:a=b:=by have:=eq_of_beq c;injection this
    rw [sm e] at hq;exact aj (wpAny_rule (aq hq))
  . rw [if_neg c];refine aj (show wpAny _ _ (compareOp .Eq (.ref a) (.ref b)) _ _ _ from keq_eq ha hb da db hu (fun _=>a9K vb va) ?_);have l1:=(a8D va).1;have l2:=(a8D vb).1;rw [l1,l2];exact wpAny_truthy_bool hq
section
variable {κ:Type} [DecidableEq κ] {knd:HeapKind prog w κ}
inductive zR (prog:Program) (w:World) (A:Around) (s:Shared) (xb:List (κ×Addr×Value)):List (κ×Addr×Value)->Bool->Prop
  | nil:zR prog w A s xb [] true
  | miss {k:κ} {p:Addr×Value} {r:List (κ×Addr×Value)}:atKey xb k=none->zR prog w A s xb ((k,p) :: r) false
  | hit {k:κ} {p q:Addr×Value} {r:List (κ×Addr×Value)} {e b:Bool}:atKey xb k=some q->axJ prog w A s p.2 q.2 e->zR prog w A s xb r b->zR prog w A s xb ((k,p) :: r) (e&&b)
theorem zR.inv {xb:List (κ×Addr×Value)} {k:κ} {p:Addr×Value} {r:List (κ×Addr×Value)} {b:Bool} (h:zR prog w A s xb ((k,p) :: r) b) :
    (atKey xb k=none/\b=false)∨∃ q e b',atKey xb k=some q/\axJ prog w A s p.2 q.2 e/\zR prog w A s xb r b'/\b=(e&&b'):=by
  cases h with
  | miss z=>exact .inl ⟨z,rfl⟩
  | hit z y x=>exact .inr ⟨_,_,_,z,y,x,rfl⟩
theorem ahQ {nm:String} {xa xb:List (κ×Addr×Value)} {Q:Bool->Shared->Prop} (na:(a == sysModules)=false) (nb:(b == sysModules)=false) (da:s.heap.DictOfH knd a xa) (db:s.heap.DictOfH knd b xb) (hu:knd.room A)
    (hits:xa.length=xb.length->zR prog w A s xb xa r) (h:Q (xa.length == xb.length&&r) s):wpAny (model prog w) A (Builtin.Dict.samePairs nm a b) Q E s:=by
  obtain ⟨o1,es,ep,g1,_,g3,g4,g5,g6⟩:=da;obtain ⟨o2,fs,fp,f1,_,f3,f4,f5,f6⟩:=db;have la:xa.length=es.size:=(size_of_entries g4).symm;have lb:xb.length=fs.size:=(size_of_entries f4).symm;rw [la,lb] at h;unfold Builtin.Dict.samePairs Builtin.Dict.showsAll;rw [if_neg (by rw [na];decide),if_neg (by rw [nb];decide)];refine aj (aq (aj (aq (aj (wpAny_dictEntries g1 g3 ?_)))));dsimp only;refine aj (wpAny_dictEntries f1 f3 ?_);by_cases sz:es.size=fs.size
  case neg =>
    rw [if_pos (by simpa using sz)];rw [show (es.size == fs.size)=false by simpa using sz,Bool.false_and] at h;exact aj (wpAny_rule (aq h))
  case pos =>
    have hr:Q r s:=by simpa [sz] using h
    have ht:=hits (by rw [la,lb];exact sz);rw [if_neg (by rw [sz];simp)];refine aj (wpAny_dictEpoch g1 g3 (aj ?_));rw [Std.Legacy.Range.forIn_eq_forIn_range'];simp only [Std.Legacy.Range.size,Nat.sub_zero,Nat.add_sub_cancel,Nat.div_one];refine wpAny_forIn_list _ (fun rest q s'=>s'=s/\q=(none,())/\∃ i,rest=List.range' i (es.size - i)/\i<=es.size/\zR prog w A s xb (xa.drop i) r) _ ?_ ?_ _ _ ⟨rfl,rfl,0,by simp,lu _,ht⟩
    . rintro x rest q s' ⟨rfl,rfl,i,e1,i1,pre⟩
      have lt:i < es.size:=by
        rcases Nat.lt_or_ge i es.size with z | z
        . exact z
        . rw [Nat.sub_eq_zero_of_le z] at e1;simp at e1
      obtain ⟨rfl,e2⟩:x=i/\rest=List.range' (i+1) (es.size - (i+1)):=by
        rw [show es.size - i=(es.size - (i+1))+1 by omega,List.range'_succ] at e1;injection e1 with z1 z2;exact ⟨z1,z2⟩
      refine aj (wpAny_dictEntries g1 g3 ?_);have lx:x < xa.length:=by rw [la];exact lt
      have en:es[x]?=some (entryOfKey knd xa[x]):=by rw [entry_at g4 x,dg lx];rfl
      rw [en];obtain ⟨k,p,kp⟩:∃ k p,xa[x]=(k,p):=⟨_,_,rfl⟩;have dr:xa.drop x=(k,p) :: xa.drop (x+1):=by rw [← kp];exact List.drop_eq_getElem_cons lx
      have hk:knd.is s'.heap k p.1:=by have:=g5 xa[x] (wg lx);rw [kp] at this;exact this
      rw [dr] at pre;rw [kp];show wpAny _ _ (holding [Value.ref p.1,p.2] _ >>= _) _ _ _;refine aj (wpAny_holding (aj ?_));refine wpAny_dictFind_heap hu hk f1 f3 f4 f5 f6 (fun no=>?_) fun j q2 hj=>?_
      . have z:=atKey_none_of_get no;rcases pre.inv with ⟨_,er⟩ | ⟨_,_,_,hy,_⟩
        . rw [er] at hr;refine aq ?_;show wpAny _ _ (if (!false)=true then _ else _) _ _ _;rw [if_pos (by decide)];exact aq (aq hr)
        . rw [z] at hy;cases hy
      . have z:=atKey_of_get f6 hj;refine aj (wpAny_dictEntries f1 f3 ?_);rw [entry_at f4 j,hj];rcases pre.inv with ⟨hn,_⟩ | ⟨q3,e,b',hy,he,hrr,er⟩
        . rw [z] at hn;cases hn
        . rw [z] at hy;cases hy;refine wpAny_holding (he _ _ ?_);cases e with
          | false =>
            rw [er,Bool.false_and] at hr;show wpAny _ _ (if (!false)=true then _ else _) _ _ _;rw [if_pos (by decide)];exact aq (aq hr)
          | true =>
            rw [Bool.true_and] at er;rw [← er] at hrr;show wpAny _ _ (if (!true)=true then _ else _) _ _ _;rw [if_neg (by decide)];refine aj (wpAny_dictEpoch g1 g3 ?_);rw [if_neg (by simp)];exact aq ⟨rfl,rfl,x+1,e2,lt,hrr⟩
    . rintro q s' ⟨rfl,rfl,i,e1,i1,pre⟩
      have en:i=es.size:=by
        rcases Nat.lt_or_ge i es.size with z | z
        . rw [show es.size - i=(es.size - (i+1))+1 by omega,List.range'_succ] at e1;cases e1
        . exact Nat.le_antisymm i1 z
      refine aq ?_;rw [en,← la,List.drop_length] at pre;cases pre;exact hr
theorem fM {xs:List (κ×Addr×Value)} (h:s.heap.DictOfH knd d xs):s.TypeIs (.ref d) "dict" := let ⟨o,_,_,h1,h2,_⟩:=h;⟨o,h1,h2.1⟩
theorem aE7 {xa xb:List (κ×Addr×Value)} (na:(a == sysModules)=false) (nb:(b == sysModules)=false) (da:s.heap.DictOfH knd a xa) (db:s.heap.DictOfH knd b xb) (hu:A.units < cLine) (hr:knd.room A.in1)
    (hits:xa.length=xb.length->zR prog w A.in1 s xb xa r) (h:Q (.bool (xa.length == xb.length&&r)) s):wpAny (model prog w) A (compareOp .Eq (.ref a) (.ref b)) Q E s:=by
  refine wpAny_richCompare_same_room (op := .Eq) (fM da) (fM db) PySem.F.slot_dict_eq (wpAny_call_entry PySem.F.slot_dict_eq (fM da) PySem.F.entry_dict_eq ?_ (PySem.F.args_dict_eq_2 _ _)) hu;show wpAny _ _ (Builtin.Dict.dictSlotArgs "__eq__" ⟨[.ref a,.ref b],[]⟩ >>= _) _ _ s;refine aj ?_;unfold Builtin.Dict.dictSlotArgs;refine aj (wpAny_notOrdered_dict (fM da) ?_);show wpAny _ _ (pure (Value.ref a,Value.ref b)) _ _ s;refine aq (aj (wpAny_isInstance (T := "dict") (fM db) PySem.F.sub_dict_dict ?_));simp only [Bool.not_true,jx,if_false];refine aj (aq (aj (aq (aj (ahQ na nb da db hr hits (aq ⟨_,rfl,(fun x=>nomatch x),?_⟩))))));simpa using h
theorem tup_ne {xa xb:List (κ×Addr×Value)} (na:(a == sysModules)=false) (nb:(b == sysModules)=false) (da:s.heap.DictOfH knd a xa) (db:s.heap.DictOfH knd b xb) (hu:A.units < cLine) (hr:knd.room A.in1)
    (hits:xa.length=xb.length->zR prog w A.in1 s xb xa r) (h:Q (.bool (!(xa.length == xb.length&&r))) s):wpAny (model prog w) A (compareOp .NotEq (.ref a) (.ref b)) Q E s:=by
  refine wpAny_richCompare_same_room (op := .NotEq) (fM da) (fM db) PySem.F.slot_dict_ne (wpAny_call_entry PySem.F.slot_dict_ne (fM da) PySem.F.entry_dict_ne ?_ (PySem.F.args_dict_ne_2 _ _)) hu;show wpAny _ _ (Builtin.Dict.dictSlotArgs "__ne__" ⟨[.ref a,.ref b],[]⟩ >>= _) _ _ s;refine aj ?_;unfold Builtin.Dict.dictSlotArgs;refine aj (wpAny_notOrdered_dict (fM da) ?_);show wpAny _ _ (pure (Value.ref a,Value.ref b)) _ _ s;refine aq (aj (wpAny_isInstance (T := "dict") (fM db) PySem.F.sub_dict_dict ?_));simp only [Bool.not_true,jx,if_false];refine aj (aq (aj (aq (aj (ahQ na nb da db hr hits (aq ⟨_,rfl,(fun x=>nomatch x),?_⟩))))));simpa using h
end
end
theorem aoQ (nd:(ps.map (·.1)).Nodup):∀ p∈ps,aK ps p.1=some p.2:=by
  induction ps with
  | nil=>intro p hp;cases hp
  | cons q ps ih =>
    intro p hp;rw [dj,jg] at nd;show (if q.1=p.1 then some q.2 else aK ps p.1)=_;rcases ig.mp hp with rfl | hp
    . rw [if_pos rfl]
    . rw [if_neg]
      . exact ih nd.2 p hp
      . intro e;exact nd.1 (by rw [e];exact List.mem_map_of_mem hp)
theorem as3 (nd:(ps.map (·.1)).Nodup):eqM ps ps=true:=by
  unfold eqM;rw [beq_self_eq_true,Bool.true_and,iu];intro p hp;rw [aoQ nd p hp];exact beq_self_eq_true _
noncomputable def ktD (z:List Key×Addr):DK×D:=(.inr z.1,.ref z.2)
noncomputable def eqT (c:Addr->List (Int×Int)) (M N:List (List Key×Addr)):Bool:=M.length == N.length&&M.all fun z=>match aK N z.1 with
  | some y=>eqM (c z.2) (c y)
  | none=>false
theorem as4 {K:Fg} {H:Hp}:∀ {M:List (List Key×Addr)} {ys:List (List Key×V)},v7 K H .inr (M.map ktD) ys->ys=M.map fun z=>(z.1,.ref z.2)
  | [],_,.nil=>rfl
  | z :: M,y :: ys,.cons h r=>by
    obtain ⟨k,v⟩:=y;obtain ⟨h1,h2⟩:=h
    have e1:z.1=k:=by
      have:(Sum.inr z.1:DK) = .inr k:=h1;exact nR _ _ this
    cases h2;rw [as4 r,← e1];rfl
theorem kt_len {H:Hp}:∀ {M:List (List Key×Addr)} {xs:List (List Key×Addr×Value)},KT H (M.map fun z=>(z.1,V.ref z.2)) xs->xs.length=M.length
  | [],_,.nil=>rfl
  | _ :: _,_ :: _,.cons _ r=>by rw [ju,ju,kt_len r]
theorem kt_at {H:Hp} {k:List Key}:∀ {M:List (List Key×Addr)} {xs:List (List Key×Addr×Value)},KT H (M.map fun z=>(z.1,V.ref z.2)) xs->(match aK M k with
    | some y=>∃ b,atKey xs k=some (b,Value.ref y)
    | none=>atKey xs k=none)
  | [],_,.nil=>rfl
  | z :: M,x :: xs,.cons h r=>by
    obtain ⟨k2,b,u⟩:=x;obtain ⟨h1,_,h3⟩:=h;cases h1;obtain rfl:u=Value.ref z.2:=h3;have ih:=kt_at (k:=k) r;unfold aK;by_cases c:z.1=k
    . rw [if_pos c];exact ⟨b,by simp [atKey,c]⟩
    . rw [if_neg c];have e:atKey ((z.1,b,Value.ref z.2) :: xs) k=atKey xs k:=by simp [atKey,su,c]
      rw [e];exact ih
theorem amF {prog:Program} {w:World} {A:Around} {s:Shared} {H:Hp} {c:Addr->List (Int×Int)} {N:List (List Key×Addr)} {xb:List (List Key×Addr×Value)} (hb:KT H (N.map fun z=>(z.1,V.ref z.2)) xb)  :
    ∀ {M:List (List Key×Addr)} {xa:List (List Key×Addr×Value)},KT H (M.map fun z=>(z.1,V.ref z.2)) xa->(∀ z∈M,∀ y,aK N z.1=some y->axJ prog w A s (.ref z.2) (.ref y) (eqM (c z.2) (c y)))->zR prog w A s xb xa (M.all fun z=>match aK N z.1 with
      | some y=>eqM (c z.2) (c y)
      | none=>false)
  | [],_,.nil,_ => .nil
  | z :: M,x :: xa,.cons h r,he=>by
    obtain ⟨k2,b,u⟩:=x;obtain ⟨h1,_,h3⟩:=h;cases h1;obtain rfl:u=Value.ref z.2:=h3;have ih:=amF hb r fun z hz=>he z (jr _ hz);have at1:=kt_at (k:=z.1) hb;have e0:=he z (ur ..);rw [qm];cases e:aK N z.1 with
    | none=>rw [e] at at1;exact .miss at1
    | some y =>
      rw [e] at at1;obtain ⟨b2,at2⟩:=at1;exact .hit at2 (e0 y e) ih
theorem ahR {k:List Key} {y:Addr} (h:aK M k=some y):(k,y)∈M:=by
  induction M with
  | nil=>cases h
  | cons z M ih =>
    unfold aK at h;by_cases c:z.1=k
    . rw [if_pos c] at h;cases h;rw [← c];exact ur ..
    . rw [if_neg c] at h;exact jr _ (ih h)
section
variable {X:Cx}
theorem amG {σ:St} (I:Inv X pins σ H s) (g:HR X.K H G) (e:G a=some (.bQ false (ps.map jC))):(a == sysModules)=false/\(ps.map (·.1)).Nodup/\∃ ka,KV (ps.map fun p=>((.inl p.1:Key),V.int p.2)) ka/\s.heap.DictOf (aP X.prog X.w) a ka:=by
  rcases g a _ e with ⟨_,ys,e1,tw⟩ | ⟨z,_⟩
  . have ey:=afB tw;subst ey;obtain ⟨z1,hsm,vs,kv,hd⟩:=aa0 I.hok e1;refine ⟨hsm,?_,vs,kv,hd⟩;have l2:=(a8D kv).2.1;obtain ⟨o,es,ep,q1,q2,q3,q4,q5,q6⟩:=hd;rw [l2] at q6;exact yj.mpr ((yj.mp q6).imp fun h z=>h (by rw [z]))
  . cases z
theorem amH {σ:St} (I:Inv X pins σ H s) (g:HR X.K H G) (e:G a=some (.bQ true (M.map ktD))):(a == sysModules)=false/\∃ xa,KT H (M.map fun z=>(z.1,V.ref z.2)) xa/\s.heap.DictOfH (tupleKind (aP X.prog X.w)) a xa:=by
  rcases g a _ e with ⟨z,_⟩ | ⟨_,ys,e1,tw⟩
  . cases z
  . have ey:=as4 tw;subst ey;obtain ⟨z1,hsm,xs,kt,hd⟩:=agK I.hok e1;exact ⟨hsm,xs,kt,hd⟩
noncomputable def aaS (neg:Bool):R3:=fun x y G R =>
  (∃ a b,∃ ps qs:List (Int×Int),x = .ref a/\y = .ref b/\G a=some (.bQ false (ps.map jC))/\G b=some (.bQ false (qs.map jC))/\R (.bl (neg ^^ eqM ps qs)) G) ∨
  ∃ a b,∃ M N:List (List Key×Addr),∃ c:Addr->List (Int×Int),x = .ref a/\y = .ref b/\G a=some (.bQ true (M.map ktD))/\G b=some (.bQ true (N.map ktD))/\(∀ z∈M++N,G z.2=some (.bQ false ((c z.2).map jC)))/\R (.bl (neg ^^ eqT c M N)) G
theorem aJP (hu:X.A.units+64 < cLine) {neg:Bool}:rA X (compareOp (if neg then .NotEq else .Eq)) (aaS neg):=a70 fun pins s σ H x y vx vy u v G R Q I rx ry ru rv g q k=>by
  have in1:X.A.in1.units=X.A.units+1:=rfl;rcases q with ⟨a,b,ps,qs,rfl,rfl,e1,e2,q⟩ | ⟨a,b,M,N,c,rfl,rfl,e1,e2,hc,q⟩
  . cases rx;cases ry;obtain rfl:u=Value.ref a:=ru;obtain rfl:v=Value.ref b:=rv;obtain ⟨n1,_,ka,va,da⟩:=amG I g e1;obtain ⟨n2,_,kb,vb,db⟩:=amG I g e2;have l1:=(a8D va).1;have l2:=(a8D vb).1;have fin:∀ bb:Bool,bb=(neg ^^ eqM ps qs)->EP X pins σ Q (.bool bb) s:=fun bb eb=>⟨.bl bb,H,I,rfl,k _ H (.bl bb) G (.refl H) (.bl _) g (by rw [eb];exact q)⟩;cases neg with
    | false=>exact keq_eq n1 n2 da db (by omega) (fun _=>a9K vb va) (fin _ (by rw [l1,l2];simp [eqM]))
    | true=>exact keq_ne n1 n2 da db (by omega) (fun _=>a9K vb va) (fin _ (by rw [l1,l2];simp [eqM]))
  . cases rx;cases ry;obtain rfl:u=Value.ref a:=ru;obtain rfl:v=Value.ref b:=rv;obtain ⟨n1,xa,va,da⟩:=amH I g e1;obtain ⟨n2,xb,vb,db⟩:=amH I g e2;have l1:=kt_len va;have l2:=kt_len vb;have fin:∀ bb:Bool,bb=(neg ^^ eqT c M N)->EP X pins σ Q (.bool bb) s:=fun bb eb=>⟨.bl bb,H,I,rfl,k _ H (.bl bb) G (.refl H) (.bl _) g (by rw [eb];exact q)⟩
    have hits:=amF (prog:=X.prog) (w:=X.w) (A:=X.A.in1) (s:=s) (c:=c) vb va fun z hz y hy=>by
      obtain ⟨m1,nd1,k1,w1,d1⟩:=amG I g (hc z (vp _ hz));obtain ⟨m2,nd2,k2,w2,d2⟩:=amG I g (hc _ (jq _ (ahR hy)));exact axK m1 m2 d1 d2 w1 w2 (by omega) fun e=>by rw [e];exact as3 nd2
    cases neg with
    | false=>exact aE7 n1 n2 da db (by omega) (show X.A.in1.units < cLine by omega) (fun _=>hits) (fin _ (by rw [l1,l2];simp [eqT]))
    | true=>exact tup_ne n1 n2 da db (by omega) (show X.A.in1.units < cLine by omega) (fun _=>hits) (fin _ (by rw [l1,l2];simp [eqT]))
end
end
section
open PySem.W
section
variable {X:Cx} {A:Around} {E:Value->Shared->Prop}
noncomputable def wW:RM3:=fun x xs G R=>match x,xs with
  | .ref q,[.bl b]=>(match bY G q with
    | some ds=>ds.all aoG=true/\∃ j:Nat,ds[j]?=some (.bl b)/\(∀ m,m < j->ds[m]?≠some (.bl b))/\R (.int j) G
    | none=>False)
  | _,_=>False
theorem ahS:a8W X "list.index" wW:=fun pins s σ H x xs vx vs u us G R Q I rx rs ru rv g q k=>by
  have big:sizeLine < 2 ^ 62:=by decide
  unfold wW at q;split at q
  . rename_i a b;split at q
    . rename_i ds e1;obtain ⟨ab,j,h1,h2,q⟩:=q;cases rx;obtain rfl:u=Value.ref a:=ru;cases rs with
      | cons r1 rr =>
      cases rr;cases r1;obtain ⟨u2,rfl,ru2⟩:=vals1 rv;obtain rfl:u2=Value.bool b:=ru2;obtain ⟨ws,hq,r1⟩:=d8 g e1;obtain ⟨its,rv',pl,hz⟩:=I.list hq;have len:its.length=ds.length:=by rw [← rv'.length,← r1.length]
      have lw:ds.length=ws.length:=r1.length;have jl:j < ds.length:=(fj.mp h1).1;have at1:∀ m (hm:m < its.toArray.size),its.toArray[m]=Value.bool (trN ds m):=fun m hm=>aoI r1 rv' ab (i:=m) (by rw [dg (by simpa using hm)];simp)
      have tr:∀ m,m < ds.length->(trN ds m=b↔ds[m]?=some (.bl b)):=fun m hm=>by
        have hb:aoG ds[m]=true:=iu.mp ab _ (wg hm);unfold trN;rw [dg hm];cases z:ds[m] with
        | bl c=>simp [aoH]
        | _=>rw [z] at hb;cases hb
      obtain ⟨o,n,p1,p2,p3,p4⟩:=pl;have hT:s.TypeIs (.ref a) "list" := ⟨o,p1,p2⟩;have hobj:s.heap.get? a=some { cls := .type "list",dict:=o.dict,data := .seq its.toArray n,slots:=o.slots }:=by rw [p1];cases o;simp_all
      refine call_meets PySem.F.slot_list_index hT PySem.F.entry_list_index (PySem.F.args_list_index_2 _ _) (SeqAt.list_indexAt a its.toArray n o.dict o.slots (.bool b) (fun v=>match v with | .bool c=>PyData.eqv (.bool c) (.bool b) | _=>false) j (by simpa [len] using jl) (by omega) ?_ ?_) ⟨hobj,?_,⟨.int j,H,I.tok _,⟨_,rfl⟩,k _ H _ G (.refl H) (.int _) g q⟩⟩
      . rw [at1 j (by simpa [len] using jl),(tr j jl).mpr h1];cases b <;> rfl
      . intro m hm hlt;have hm2:m < ds.length:=by rw [← len];simpa using hm
        rw [at1 m hm];have ne:trN ds m≠b:=fun z=>h2 m hlt ((tr m hm2).mp z);cases c:trN ds m <;> cases b <;> first | rfl | exact absurd c ne
      . intro y hy;obtain ⟨m,hm,rfl⟩:=Array.mem_iff_getElem.mp hy;rw [at1 m hm];exact keq_flat (PyProof.V.Flat.bool _) (PyProof.V.Flat.bool _)
    . exact q.elim
  . exact q.elim
end
end
variable {u:HO}{ys:List (Key×V)}{od:Obj}{ep kt:Nat}{en:Array DictEntry}{al:Bool}{SJ:Hp->Src->It->Prop}
section
open PySem.W
structure Fz (X:Cx) (p:Addr):Prop where
  free:∀ ob,X.s₀.heap.get? p=some ob->X.H₀ p=none->p∈X.ex
  tup:∀ xs,X.H₀ p≠some (.tup xs)
  lW:∀ o w,X.H₀ p≠some (.lW o w)
  tbl:∀ ps,X.H₀ p≠some (.tbl ps)
section
variable {X:Cx} {pins:List (Addr×Obj)} {σ:St} {H:Hp} {s:Shared}
theorem Fz.of (I:Inv X pins σ H s) (hu:H p=some u) (h1:∀ xs,u ≠ .tup xs) (h2:∀ ob w,u ≠ .lW ob w) (h3:∀ ps,u ≠ .tbl ps):Fz X p:=by
  refine ⟨fun ob q n=>?_,fun xs q=>?_,fun o w q=>?_,fun ps q=>?_⟩
  . apply Classical.byContradiction;intro hx;have:=I.base.free p ob q n hx;rw [hu] at this;cases this
  . have:=I.base.tups p xs q;rw [hu] at this;exact h1 xs (gk.inj this)
  . have:=I.base.m7 p o w q;rw [hu] at this;exact h2 o w (gk.inj this)
  . obtain ⟨more,this⟩:=I.base.uY p ps q;rw [hu] at this;exact h3 _ (gk.inj this)
end
section
variable {X:Cx} {pins:List (Addr×Obj)} {σ:St} {H:Hp} {s:Shared}
theorem Inv.freeze (I:Inv X pins σ H s) {o:Obj} (hu:H a=some u) (h1:∀ xs,u ≠ .tup xs) (h2:∀ ob w,u ≠ .lW ob w) (h3:∀ ps,u ≠ .tbl ps) (h4:∀ x,u ≠ .own x) (ho:s.heap.get? a=some o):Inv X pins σ (upd H a (.lW o u)) s:=by
  have ne:∀ {b:Addr} {v:HO},H b=some v->v≠u->b≠a:=fun e n z=>by subst z;rw [hu] at e;exact n (gk.inj e).symm
  have no:∀ {b:Addr},H b=none->upd H a (.lW o u) b=none:=fun {b} e=>by
    rw [aX];exact e;intro z;subst z;rw [hu] at e;cases e
  have kt:∀ b xs,H b=some (.tup xs)->upd H a (.lW o u) b=some (.tup xs):=fun b xs q=>by rw [aX (ne q fun z=>h1 xs z.symm)];exact q
  have kf:∀ b ob w,H b=some (.lW ob w)->upd H a (.lW o u) b=some (.lW ob w):=fun b ob w q=>by rw [aX (ne q fun z=>h2 ob w z.symm)];exact q
  have ko:∀ b x,H b=some (.own x)->upd H a (.lW o u) b=some (.own x):=fun b x q=>by rw [aX (ne q fun z=>h4 x z.symm)];exact q
  refine ⟨I.ok,I.os,I.bare,⟨I.base.keep,I.base.slot,fun b ob q n hx=>no (I.base.free b ob q n hx),I.base.there,fun b xs q=>kt b xs (I.base.tups b xs q),fun b ob w q=>kf b ob w (I.base.m7 b ob w q),fun b ps q=>?_⟩,I.loc,I.cell,no I.free,fun x c e=>no (I.m8 x c e),fun p hp=>?_,fun b v e=>?_,I.len,I.hnd.mono kf,fun p hp=>kt _ _ (I.tup p hp)⟩
  . obtain ⟨more,e⟩:=I.base.uY b ps q;exact ⟨more,by rw [aX (ne e fun z=>h3 _ z.symm)];exact e⟩
  . obtain ⟨z1,z2,z3⟩:=I.pin p hp;exact ⟨z1,no z2,z3⟩
  . by_cases hb:b=a
    . subst hb;rw [aJ] at e;obtain rfl:=gk.inj e;exact ⟨ho,(I.hok b u hu).stay (fun _ _ _ q=>q) (fun c q=>ko c _ q) fun c xs q=>kt c xs q⟩
    . rw [aX hb] at e;exact (I.hok b v e).stay (fun _ _ _ q=>q) (fun c q=>ko c _ q) fun c xs q=>kt c xs q
theorem as5 {vs:List (Key×Value)} (r:KV ys vs):∀ {i:Nat} {k:Key} {y:V},ys[i]?=some (k,y)->∃ u,vs[i]?=some (k,u)/\RelV y u:=by
  induction r with
  | nil=>intro i k y e;simp at e
  | @cons p q _ _ h _ ih =>
    intro i k y e;cases i with
    | zero =>
      simp only [uo,gk.injEq] at e;subst e;obtain ⟨q1,q2⟩:=q;obtain ⟨h1,h2⟩:=h;exact ⟨q2,by simp only [uo];rw [show q1=k from h1.symm],h2⟩
    | succ i=>simpa using ih (by simpa using e)
theorem amI {k:Key} {key:Value} (h:a87 k key=true):RelV (kV k) key:=by
  rcases d9 h with ⟨i,t,e1,e2⟩ | ⟨i,t,e1,e2⟩
  . subst e1;exact ⟨t,e2⟩
  . subst e1;exact ⟨t,e2⟩
theorem aaT {es:Array DictEntry} (I:Inv X pins σ H s) (hd:od.data = .dict es ep) (hq:H a=some (.lW od (.dK ys))) :
    ∃ vs,KV ys vs/\s.heap.DictAt (aP X.prog X.w) a vs ep/\vs.length=es.size/\(a == sysModules)=false:=by
  obtain ⟨hod,_⟩:=(show s.heap.get? a=some od/\_ from I.hok a _ hq);obtain ⟨_,hsm,vs,kv,o1,es1,ep1,g1,g2,g3,g4,g5,g6⟩:=zO I.hok (.inr ⟨od,hq⟩);rw [hod] at g1;obtain rfl:=gk.inj g1;rw [hd] at g3;injection g3 with e1 e2;subst e1 e2;exact ⟨vs,kv,⟨od,es,hod,g2,hd,g4,g5,g6⟩,by rw [← g5.length];simp,hsm⟩
end
noncomputable def Iti (a:Addr) (od:Obj):It :=
  ⟨fun i H=>∃ ys:List (Key×V),H a=some (.lW od (.dK ys))/\i < ys.length,
   fun i H v H'=>∃ (p:Addr) (k:Key) (y:V),H p=none/\v = .ref p/\H'=upd H p (.tup [kV k,y])/\∀ ys,H a=some (.lW od (.dK ys))->ys[i]?=some (k,y),
   fun i H=>∃ ys:List (Key×V),H a=some (.lW od (.dK ys))/\ys.length<=i⟩
theorem aaU {w:World} {K:Fg} {pt:Pos} (hd:od.data = .dict en ep) :
    Turn true tl P w K (.Tuple es kt pt) (Iti a od) [it] it (fun i h=>∃ ok ov,IsItemIter h it a i en.size ep ok ov) where
  mem:=by simp
  obj:=fun i h st b hb=>by
    have e:b=it:=by simpa using hb
    subst e;obtain ⟨ok,ov,e⟩:=st;exact ⟨_,e,fun v z=>nomatch z⟩
  keep:=fun i h h' st k=>by
    obtain ⟨ok,ov,e⟩:=st;exact ⟨ok,ov,k it (by simp) _ e⟩
  item:=by
    intro X hP hw hK hcm ht i pins s σ H E I hf st hg;subst hP hw hK;obtain ⟨ok,ov,hit⟩:=st;obtain ⟨ys,hq,hi⟩:=hg;obtain ⟨vs,kv,hm,hn,_⟩:=aaT I hd hq;have hx:ys[i]?=some (ys[i].1,ys[i].2):=dg hi;obtain ⟨u,hu,ru⟩:=as5 kv hx;have fr:=I.hok.fresh (au s.heap.objs.size);have nit:s.heap.objs.size≠it:=wu (bh hit);refine wpAny_pyNext_items_item (knd:=aP X.prog X.w) (kvs:=vs) (by rw [hn];exact hit) hm hu fun key h' hkey hout htu hsz kk=>?_;refine ⟨_,rfl,wpAny_letOwnedTupleGo_items (s:={ s with heap:=h' }) hout fun h2 hin sb=>?_⟩;have k2:∀ b o,b ∉ [it]->s.heap.get? b=some o->h2.get? b=some o:=fun b o hb e=>sb.extBut _ _ (fun q=>hb (by simp [q])) (kk b o (fun q=>hb (by simp [q])) e)
    refine ⟨.ref s.heap.objs.size,upd H s.heap.objs.size (.tup [kV ys[i].1,ys[i].2]),I.aoJ (t':=s.toks) (ch:=[it]) k2 hf (au _) ⟨show 2<=sizeLine by decide,[key,u],.cons (amI hkey) (.cons ru .nil),⟨_,sb.extBut _ _ nit htu,rfl,_,rfl⟩⟩,rfl,
      ⟨_,ys[i].1,ys[i].2,fr,rfl,rfl,fun zs z=>by rw [hq] at z;cases z;exact hx⟩,⟨_,_,by rw [hn] at hin;exact hin⟩,fun b hb=>?_⟩
    have e:b=it:=by simpa using hb
    subst e;rw [aX (Ne.symm nit)];exact (hf _ hb).1
  done:=by
    intro X hP hw hK hcm ht i pins s σ H E I hf st hg;subst hP hw hK;obtain ⟨ok,ov,hit⟩:=st;obtain ⟨ys,hq,hi⟩:=hg;obtain ⟨vs,kv,hm,hn,_⟩:=aaT I hd hq;obtain ⟨f0,f1,f2,f3,f4,f5⟩:=hf it (by simp);have hl:ys.length=vs.length:=Paired.length kv;exact wpAny_pyNext_items_end (knd:=aP X.prog X.w) (kvs:=vs) (I.ok.hd (hcm rfl)) (by rw [hn];exact hit) hm (qp (by omega)) fun h' eb=>⟨rfl,I.turned (t':=s.toks) (fun b o hb e=>eb b o hb e) f0 f1 f3 f4 f5⟩
  self:=fun _ _ _ _ _ st h=>by
    obtain ⟨ok,ov,hit⟩:=st;exact kcp_self hit h
theorem akJ {K:Fg}:∀ k:Key,RD K H (kD k) (kV k)
  | .inl i => .int i
  | .inr x => .str x
theorem ahT {K:Fg} {H:Hp}:∀ ks:List Key,cN K H (ks.map kD) (ks.map kV)
  | [] => .nil
  | k :: ks => .cons (akJ k) (ahT ks)
theorem afD {α β:Type} {P:α->β->Prop} {as:List α} {bs:List β} (t:Two P as bs):∀ {i:Nat} {b:β},bs[i]?=some b->∃ a,as[i]?=some a/\P a b:=by
  induction t with
  | nil=>intro i b e;simp at e
  | @cons a b _ _ h _ ih =>
    intro i c e;cases i with
    | zero=>simp only [uo,gk.injEq] at e;subst e;exact ⟨a,rfl,h⟩
    | succ i=>simpa using ih (by simpa using e)
theorem ahU {K:Fg}:aa9 K H1 (.itm p od kvs) (Iti p od):=fun H2 G2 t g ok=>by
  have ok':G2 p=some (.rdc od false kvs):=ok;rcases g p _ ok' with ⟨_,ys,e,tw⟩ | ⟨z,_⟩
  . have hl:(Src.itm p od kvs).items.length=ys.length:=by simp [Src.items,tw.length]
    refine ⟨fun i hi=>⟨ys,e,by rw [hl] at hi;exact hi⟩,fun i v H' hi hy=>?_,⟨ys,e,by rw [hl];exact au _⟩⟩;obtain ⟨q,k,y,fr,rfl,rfl,hy⟩:=hy;obtain ⟨⟨dk,d⟩,e2,r1,r2⟩:=afD tw (hy ys e);have r1:dk = .inl k:=r1;subst r1;have sn:Same H2 (upd H2 q (.tup [kV k,y])):=bU fr;exact ⟨sn,.tup [kD k,d],by simp [Src.items,e2,dkD],.tup (SqT.of aJ) (.cons (akJ k) (.cons (r2.mono (.same sn)) .nil)) (ak6 aJ)⟩
  . cases z
theorem ahV {K:Fg}:a8X K (.itm p od kvs) (Iti p od):=fun H2 G2 g ok=>ahU (H1:=H2) H2 G2 (.refl _) g ok
noncomputable def aaV (al:Bool) (x:D) (G1:Gp) (R:Src->Gp->Prop):Prop:=match x with
  | .ref p=>(match G1 p with
    | some (.bQ false kvs)=>∀ od,R (.itm p od kvs) (aL G1 p (.rdc od false kvs))
    | some (.rdc od false kvs)=>al=true/\R (.itm p od kvs) G1
    | _=>False)
  | _=>False
noncomputable def sG (al:Bool) (to:cL):TI3:=fun ρ G R=>to ρ G fun x G1=>aaV al x G1 R
variable {R:Src->Gp->Prop}
theorem as6 (h:aaV al x G1 R):∃ p kvs,x = .ref p/\((G1 p=some (.bQ false kvs)/\∀ od,R (.itm p od kvs) (aL G1 p (.rdc od false kvs)))∨∃ od,G1 p=some (.rdc od false kvs)/\al=true/\R (.itm p od kvs) G1):=by
  unfold aaV at h;split at h
  . rename_i p;split at h
    . rename_i kvs e;exact ⟨p,kvs,rfl,.inl ⟨e,h⟩⟩
    . rename_i od kvs e;exact ⟨p,kvs,rfl,.inr ⟨od,e,h⟩⟩
    . exact h.elim
  . exact h.elim
section
variable {X:Cx}
theorem aaW {pt:Pos} (hc:X.calm=true) (ho:cR X o to)
    (hbase:attributeBase o "items" X.env (eval o X.env)=eval o X.env) (hline:(apos.endLine == cpos.line)=true) (hSJ:∀ H p od kvs,(al=false->Fz X p)->SJ H (.itm p od kvs) (Iti p od)) :
    PI X (.Tuple es kt pt) (.Call (.Attribute o "items" apos) [] [] cpos) (fun σ H Q=>∃ ρ G R,SR X.K H ρ σ/\HR X.K H G/\sG al to ρ G R/\∀ src J H' G',Ts H H'->HR X.K H' G'->SJ H' src J->R src G'->Q J H'):=by
  intro pins s σ H Q I h;obtain ⟨ρ,G,R,sr,g,q,kk⟩:=h;refine wpAny_Call_method0_late hbase hline (f9 (ho pins s σ H (fun vx H1=>Ts H H1/\∃ x G1,RD X.K H1 x vx/\HR X.K H1 G1/\aaV al x G1 R) I ⟨ρ,G,_,sr,g,q,fun v H1 x G1 t1 r1 g1 q1=>⟨t1,x,G1,r1,g1,q1⟩⟩) fun v s1 ⟨vx,H1,I1,r1,t1,x1,G1,rx,g1,q1⟩=>?_);obtain ⟨a,kvs,rfl,q2⟩:=as6 q1;cases rx;obtain rfl:v=Value.ref a:=r1
  obtain ⟨ys,ed⟩:∃ ys:List (Key×V),Rd H1 a (.dK ys):=by
    rcases q2 with ⟨e1,_⟩ | ⟨od,e1,_⟩
    . rcases g1 a _ e1 with ⟨_,ys,e2,_⟩ | ⟨z,_⟩
      . exact ⟨ys,.inl e2⟩
      . cases z
    . rcases g1 a _ e1 with ⟨_,ys,e2,_⟩ | ⟨z,_⟩
      . exact ⟨ys,.inr ⟨od,e2⟩⟩
      . cases z
  obtain ⟨h1,h2,h3⟩:=a6W I1 (.inl ⟨ys,ed⟩);refine ⟨"dict", "dict.items",PySem.F.plainAttrs_dict,PySem.F.slot_dict_items,PySem.F.type_dict_items,h1,h2,Calls.callWith_builtin rfl (PySem.evalArgs_none ?_)⟩;obtain ⟨_,hsm,vs,kv,hd⟩:=zO I1.hok ed;refine call_meetsIn PySem.F.slot_dict_items h1 PySem.F.entry_dict_items (PySem.F.args_dict_items_1 _) (meets_dict_items (aP X.prog X.w) a hsm) ⟨⟨vs,hd⟩,?_⟩;obtain ⟨od,en,ep,o1,o2,o3,o4,o5,o6⟩:=hd;have I2:Inv X pins σ H1 { s1 with heap:=s1.heap.push { cls := .type "dict_items",data := .fields #[.ref a] },toks:=s1.toks }:=I1.kept fun b o e=>ao _ e;have od2:(s1.heap.push { cls := .type "dict_items",data := .fields #[.ref a] }).get? a=some od:=ao _ o1;have hm:(s1.heap.push { cls := .type "dict_items",data := .fields #[.ref a] }).DictAt (aP X.prog X.w) a vs ep:=⟨od,en,od2,o2,o3,o4,o5,o6⟩;have hln:vs.length=en.size:=by rw [← o5.length];simp
  show wpAny (model X.prog X.w) X.A (pyIter (.ref s1.heap.objs.size)) (PIE X pins σ (.Tuple es kt pt) Q) X.xe { s1 with heap:=s1.heap.push { cls := .type "dict_items",data := .fields #[.ref a] } };generalize hh:s1.heap.push { cls := .type "dict_items",data := .fields #[.ref a] }=hp at *;have hv:hp.IsItemsView s1.heap.objs.size a:=⟨_,by rw [← hh];exact cg _ rfl,rfl,rfl⟩;refine wpAny_pyIter_items (s:={ s1 with heap:=hp }) (knd:=aP X.prog X.w) hv hm ?_;have I3:Inv X pins σ H1 { s1 with heap:=hp.push { cls := .type "dict_itemiterator",data := .fields #[.none,.bool false,.ref a,.int 0 0,.int vs.length 0,.int ep 0,.none,.none] },toks:=s1.toks }:=I2.kept fun b o e=>ao _ e;have od3:(hp.push { cls := .type "dict_itemiterator",data := .fields #[.none,.bool false,.ref a,.int 0 0,.int vs.length 0,.int ep 0,.none,.none] }).get? a=some od:=ao _ od2
  have hit:IsItemIter (hp.push { cls := .type "dict_itemiterator",data := .fields #[.none,.bool false,.ref a,.int 0 0,.int vs.length 0,.int ep 0,.none,.none] }) hp.objs.size a 0 en.size ep .none .none:=by
    rw [← hln];exact cg _ rfl
  have fr1:H1 hp.objs.size=none:=I2.hok.fresh (au _);rcases q2 with ⟨e1,q3⟩ | ⟨od',e1,ha,q3⟩
  . rcases g1 a _ e1 with ⟨_,zs,e2,tw⟩ | ⟨z,_⟩
    . have tt:Ts H1 (upd H1 a (.lW od (.dK zs))):=Ts.turn e2 (fun xs z=>nomatch z) (fun ob w z=>nomatch z);have I4:=I3.freeze e2 (fun xs z=>nomatch z) (fun ob w z=>nomatch z) (fun ps z=>nomatch z) (fun x z=>nomatch z) od3;have g4:HR X.K (upd H1 a (.lW od (.dK zs))) (aL G1 a (.rdc od false kvs)):=g1.turn tt (.inl ⟨rfl,zs,aJ,tw.imp fun _ _ q=>⟨q.1,q.2.mono tt⟩⟩);have na:hp.objs.size≠a:=wu (bh od2);refine ⟨hp.objs.size,[hp.objs.size],_,Iti a od,_,rfl,I4,(show Turn X.calm X.tp X.prog X.w X.K (.Tuple es kt pt) _ _ _ _ from hc ▸ aaU o3),⟨_,_,hit⟩,fun b hb=>?_,kk _ _ _ _ (t1.trans tt) g4 (hSJ _ a od kvs fun _=>Fz.of I1 e2 (fun xs z=>nomatch z) (fun ob w z=>nomatch z) (fun ps z=>nomatch z)) (q3 od)⟩;have e:b=hp.objs.size:=by simpa using hb
      subst e;exact I2.a6T (au _) (by rw [aX na];exact fr1)
    . cases z
  . rcases g1 a _ e1 with ⟨_,zs,e2,tw⟩ | ⟨z,_⟩
    . obtain ⟨od4,_⟩:=(show s1.heap.get? a=some od'/\_ from I1.hok a _ e2);rw [o1] at od4;obtain rfl:=gk.inj od4;refine ⟨hp.objs.size,[hp.objs.size],_,Iti a od,_,rfl,I3,(show Turn X.calm X.tp X.prog X.w X.K (.Tuple es kt pt) _ _ _ _ from hc ▸ aaU o3),⟨_,_,hit⟩,fun b hb=>?_,kk _ _ _ _ t1 g1 (hSJ _ a od kvs fun z=>by rw [ha] at z;cases z) q3⟩;have e:b=hp.objs.size:=by simpa using hb
      subst e;exact I2.a6T (au _) fr1
    . cases z
theorem axL {pt:Pos} (hc:X.calm=true) (ho:cR X o to) (hbase:attributeBase o "items" X.env (eval o X.env)=eval o X.env) (hline:(apos.endLine == cpos.line)=true) :
    PI3 X (.Tuple es kt pt) (.Call (.Attribute o "items" apos) [] [] cpos) (sG true to):=aaW (SJ:=aa9 X.K) hc ho hbase hline fun _ _ _ _ _=>ahU
theorem as7 {pt:Pos} (hc:X.calm=true) (ho:cR X o to) (hbase:attributeBase o "items" X.env (eval o X.env)=eval o X.env) (hline:(apos.endLine == cpos.line)=true) :
    PIS X (.Tuple es kt pt) (.Call (.Attribute o "items" apos) [] [] cpos) (sG true to):=aaW (SJ:=fun _=>a8X X.K) hc ho hbase hline fun _ _ _ _ _=>ahV
end
noncomputable def Itk (a:Addr) (od:Obj):It :=
  ⟨fun i H=>∃ ys:List (Key×V),H a=some (.lW od (.dK ys))/\i < ys.length,
   fun i H v H'=>H'=H/\∀ ys,H a=some (.lW od (.dK ys))->∃ k y,ys[i]?=some (k,y)/\v=kV k,
   fun i H=>∃ ys:List (Key×V),H a=some (.lW od (.dK ys))/\ys.length<=i⟩
noncomputable def Itq (a:Addr) (od:Obj):It :=
  ⟨fun i H=>∃ ys:List (List Key×V),H a=some (.lW od (.dT ys))/\i < ys.length,
   fun i H v H'=>H'=H/\∀ ys,H a=some (.lW od (.dT ys))->∃ ks y q,ys[i]?=some (ks,y)/\v = .ref q/\H q=some (.tup (ks.map kV)),
   fun i H=>∃ ys:List (List Key×V),H a=some (.lW od (.dT ys))/\ys.length<=i⟩
section
variable {X:Cx} {pins:List (Addr×Obj)} {σ:St} {H:Hp} {s:Shared}
variable {es:Array DictEntry}
theorem ahW (I:Inv X pins σ H s) (hd:od.data = .dict es ep) (hq:H a=some (.lW od (.dK ys))) :
    tH s.heap a es ep/\es.size=ys.length/\∀ (i:Nat) (k:Key) (y:V),ys[i]?=some (k,y)->∃ e:DictEntry,es[i]?=some e/\RelV (kV k) e.key:=by
  obtain ⟨vs,kv,hm,hn,_⟩:=aaT I hd hq;obtain ⟨od',es',h1,h2,h3,h4,h5,h6⟩:=hm;obtain ⟨hod,_⟩:=(show s.heap.get? a=some od/\_ from I.hok a _ hq);rw [hod] at h1;obtain rfl:=gk.inj h1;rw [hd] at h3;injection h3 with e1 e2;subst e1;refine ⟨⟨od,hod,h2,hd⟩,by rw [← hn];exact (Paired.length kv).symm,fun i k y e=>?_⟩;obtain ⟨u,hu,_⟩:=as5 kv e;have lt:i < es.size:=by rw [← hn];exact (fj.mp hu).1
  obtain ⟨hkey,_⟩:=h5.get? (e:=es[i]) (by simp [lt]) hu;exact ⟨es[i],by simp [lt],amI hkey⟩
variable {ys:List (List Key×V)}
theorem aE8 {xs:List (List Key×Addr×Value)} (r:KT H ys xs):∀ {i:Nat} {ks:List Key} {y:V},ys[i]?=some (ks,y)->∃ q u,xs[i]?=some (ks,q,u)/\H q=some (.tup (ks.map kV)):=by
  induction r with
  | nil=>intro i k y e;simp at e
  | @cons p q _ _ h _ ih =>
    intro i ks y e;cases i with
    | zero =>
      simp only [uo,gk.injEq] at e;subst e;obtain ⟨q1,q2,q3⟩:=q;obtain ⟨h1,h2,h3⟩:=h;obtain rfl:ks=q1:=h1;exact ⟨q2,q3,rfl,h2⟩
    | succ i=>simpa using ih (by simpa using e)
theorem adZ (I:Inv X pins σ H s) (hd:od.data = .dict es ep) (hq:H a=some (.lW od (.dT ys))) :
    tH s.heap a es ep/\es.size=ys.length/\∀ (i:Nat) (ks:List Key) (y:V),ys[i]?=some (ks,y)->∃ (e:DictEntry) (q:Addr),es[i]?=some e/\e.key=Value.ref q/\H q=some (.tup (ks.map kV)):=by
  obtain ⟨hod,_⟩:=(show s.heap.get? a=some od/\_ from I.hok a _ hq);obtain ⟨_,hsm,xs,kt,o1,es1,ep1,g1,g2,g3,g4,g5⟩:=a5E I.hok (.inr ⟨od,hq⟩);rw [hod] at g1;obtain rfl:=gk.inj g1;rw [hd] at g3;injection g3 with e1 e2;subst e1;have hl:es.size=xs.length:=by rw [← nu,g4,dh]
  refine ⟨⟨od,hod,g2,hd⟩,by rw [hl];exact (Paired.length kt).symm,fun i ks y e=>?_⟩;obtain ⟨q,u,hx,hh⟩:=aE8 kt e;refine ⟨entryOfKey (tupleKind (aP X.prog X.w)) (ks,q,u),q,?_,rfl,hh⟩;rw [← tu,g4,qg,hx];rfl
end
theorem aoR (aE9:cm=true) {w:World} {K:Fg} (hd:od.data = .dict en ep) :
    Turn cm tl P w K tg (Itk a od) [it] it (fun i h=>h.IsKeyIter it a i en.size ep) where
  mem:=by simp
  obj:=fun i h st b hb=>by
    have e:b=it:=by simpa using hb
    subst e;obtain ⟨o,e,c,d⟩:=st;exact ⟨o,e,fun v z=>by rw [d] at z;cases z⟩
  keep:=fun i h h' st k=>st.at fun o e=>k it (by simp) o e
  item:=by
    intro X hP hw hK hcm ht i pins s σ H E I hf st hg;subst hP hw hK;obtain ⟨ys,hq,hi⟩:=hg;obtain ⟨hm,hn,hk⟩:=ahW I hd hq;have hx:ys[i]?=some (ys[i].1,ys[i].2):=dg hi;obtain ⟨e,he,rk⟩:=hk i _ _ hx;obtain ⟨f0,f1,f2,f3,f4,f5⟩:=hf it (by simp);refine af7 st hm he fun h' st' sb=>?_;have I1:Inv X pins σ H { s with heap:=h' }:=I.turned (t':=s.toks) (fun b o hb e=>(sb.2 b hb).trans e) f0 f1 f3 f4 f5;obtain ⟨o,e,c,d⟩:=id st';exact ⟨_,rfl,a9U (s:={ s with heap:=h' }) e c d (by decide) ⟨kV ys[i].1,H,I1,rk,⟨rfl,fun zs z=>by rw [hq] at z;cases z;exact ⟨_,_,hx,rfl⟩⟩,st',fun b hb=>(hf b hb).1⟩⟩
  done:=by
    intro X hP hw hK hcm ht i pins s σ H E I hf st hg;subst hP hw hK;obtain ⟨ys,hq,hi⟩:=hg;obtain ⟨hm,hn,hk⟩:=ahW I hd hq;obtain ⟨f0,f1,f2,f3,f4,f5⟩:=hf it (by simp);exact akF (I.ok.hd (hcm aE9)) st hm (by omega) fun h' eb=>⟨rfl,I.turned (t':=s.toks) (fun b o hb e=>eb b o hb e) f0 f1 f3 f4 f5⟩
  self:=fun _ _ _ _ _ st h=>wpAny_pyIter_keyiter st h
theorem akK (aE9:cm=true) {w:World} {K:Fg} (hd:od.data = .dict en ep) :
    Turn cm tl P w K tg (Itq a od) [it] it (fun i h=>h.IsKeyIter it a i en.size ep) where
  mem:=by simp
  obj:=fun i h st b hb=>by
    have e:b=it:=by simpa using hb
    subst e;obtain ⟨o,e,c,d⟩:=st;exact ⟨o,e,fun v z=>by rw [d] at z;cases z⟩
  keep:=fun i h h' st k=>st.at fun o e=>k it (by simp) o e
  item:=by
    intro X hP hw hK hcm ht i pins s σ H E I hf st hg;subst hP hw hK;obtain ⟨ys,hq,hi⟩:=hg;obtain ⟨hm,hn,hk⟩:=adZ I hd hq;have hx:ys[i]?=some (ys[i].1,ys[i].2):=dg hi;obtain ⟨e,q,he,ek,hh⟩:=hk i _ _ hx;obtain ⟨f0,f1,f2,f3,f4,f5⟩:=hf it (by simp);refine af7 st hm he fun h' st' sb=>?_;have I1:Inv X pins σ H { s with heap:=h' }:=I.turned (t':=s.toks) (fun b o hb e=>(sb.2 b hb).trans e) f0 f1 f3 f4 f5;obtain ⟨o,e',c,d⟩:=id st';exact ⟨_,rfl,a9U (s:={ s with heap:=h' }) e' c d (by decide) ⟨.ref q,H,I1,ek,⟨rfl,fun zs z=>by rw [hq] at z;cases z;exact ⟨_,_,q,hx,rfl,hh⟩⟩,st',fun b hb=>(hf b hb).1⟩⟩
  done:=by
    intro X hP hw hK hcm ht i pins s σ H E I hf st hg;subst hP hw hK;obtain ⟨ys,hq,hi⟩:=hg;obtain ⟨hm,hn,hk⟩:=adZ I hd hq;obtain ⟨f0,f1,f2,f3,f4,f5⟩:=hf it (by simp);exact akF (I.ok.hd (hcm aE9)) st hm (by omega) fun h' eb=>⟨rfl,I.turned (t':=s.toks) (fun b o hb e=>eb b o hb e) f0 f1 f3 f4 f5⟩
  self:=fun _ _ _ _ _ st h=>wpAny_pyIter_keyiter st h
noncomputable def ItK (a:Addr) (od:Obj):Bool->It
  | false=>Itk a od
  | true=>Itq a od
theorem ahX {K:Fg} {t:Bool}:aa9 K H1 (.key p od t kvs) (ItK p od t):=fun H2 G2 t' g ok=>by
  have ok':G2 p=some (.rdc od t kvs):=ok;rcases g p _ ok' with ⟨rfl,ys,e,tw⟩ | ⟨rfl,ys,e,tw⟩
  . have hl:(Src.key p od false kvs).items.length=ys.length:=by simp [Src.items,tw.length]
    refine ⟨fun i hi=>⟨ys,e,by rw [hl] at hi;exact hi⟩,fun i v H' hi hy=>?_,⟨ys,e,by rw [hl];exact au _⟩⟩;obtain ⟨rfl,hy⟩:=hy;obtain ⟨k,y,e1,rfl⟩:=hy ys e;obtain ⟨⟨dk,d⟩,e2,r1,r2⟩:=afD tw e1;have r1:dk = .inl k:=r1;subst r1;exact ⟨.refl _,kD k,by simp [Src.items,e2,dkD],akJ k⟩
  . have hl:(Src.key p od true kvs).items.length=ys.length:=by simp [Src.items,tw.length]
    refine ⟨fun i hi=>⟨ys,e,by rw [hl] at hi;exact hi⟩,fun i v H' hi hy=>?_,⟨ys,e,by rw [hl];exact au _⟩⟩;obtain ⟨rfl,hy⟩:=hy;obtain ⟨ks,y,q,e1,rfl,hh⟩:=hy ys e;obtain ⟨⟨dk,d⟩,e2,r1,r2⟩:=afD tw e1;have r1:dk = .inr ks:=r1;subst r1;exact ⟨.refl _,.tup (ks.map kD),by simp [Src.items,e2,dkD],.tup (SqT.of hh) (ahT ks) (ak6 hh)⟩
theorem ahY {K:Fg} {t:Bool}:a8X K (.key p od t kvs) (ItK p od t):=fun H2 G2 g ok=>ahX (H1:=H2) H2 G2 (.refl _) g ok
noncomputable def aaX (al:Bool) (x:D) (G1:Gp) (R:Src->Gp->Prop):Prop:=match x with
  | .ref p=>(match G1 p with
    | some (.bQ t kvs)=>∀ od,R (.key p od t kvs) (aL G1 p (.rdc od t kvs))
    | some (.rdc od t kvs)=>al=true/\R (.key p od t kvs) G1
    | _=>False)
  | _=>False
noncomputable def tK (al:Bool) (te:cL):TI3:=fun ρ G R=>te ρ G fun x G1=>aaX al x G1 R
theorem as8 (h:aaX al x G1 R):∃ p t kvs,x = .ref p/\((G1 p=some (.bQ t kvs)/\∀ od,R (.key p od t kvs) (aL G1 p (.rdc od t kvs)))∨∃ od,G1 p=some (.rdc od t kvs)/\al=true/\R (.key p od t kvs) G1):=by
  unfold aaX at h;split at h
  . rename_i p;split at h
    . rename_i t kvs e;exact ⟨p,t,kvs,rfl,.inl ⟨e,h⟩⟩
    . rename_i od t kvs e;exact ⟨p,t,kvs,rfl,.inr ⟨od,e,h⟩⟩
    . exact h.elim
  . exact h.elim
section
variable {X:Cx} {pins:List (Addr×Obj)} {σ:St} {H:Hp} {s:Shared}
theorem ahZ (I:Inv X pins σ H s) (d:IsD H a):∃ od en ep,s.heap.get? a=some od/\od.ExactDict/\od.data = .dict en ep/\(a == sysModules)=false:=by
  rcases d with ⟨kvs,e⟩ | ⟨kvs,e⟩
  . obtain ⟨_,hd,vs,_,od,en,ep,h1,h2,h3,_⟩:=zO I.hok e;exact ⟨od,en,ep,h1,h2,h3,hd⟩
  . obtain ⟨_,hd,vs,_,od,en,ep,h1,h2,h3,_⟩:=a5E I.hok e;exact ⟨od,en,ep,h1,h2,h3,hd⟩
theorem axM {K:Fg} {t:Bool} (g:HR K H G) (e:G a=some (.bQ t kvs)) (od:Obj) :
    ∃ u,H a=some u/\(∀ xs,u ≠ .tup xs)/\(∀ ob w,u ≠ .lW ob w)/\(∀ ps,u ≠ .tbl ps)/\(∀ x,u ≠ .own x)/\Ts H (upd H a (.lW od u))/\HR K (upd H a (.lW od u)) (aL G a (.rdc od t kvs)):=by
  rcases g a _ e with ⟨z,ys,e2,tw⟩ | ⟨z,ys,e2,tw⟩
  . have tt:Ts H (upd H a (.lW od (.dK ys))):=Ts.turn e2 (fun xs z=>nomatch z) (fun ob w z=>nomatch z);exact ⟨_,e2,(fun xs z=>nomatch z),(fun ob w z=>nomatch z),(fun ps z=>nomatch z),(fun x z=>nomatch z),tt,g.turn tt (.inl ⟨z,ys,aJ,tw.imp fun _ _ q=>⟨q.1,q.2.mono tt⟩⟩)⟩
  . have tt:Ts H (upd H a (.lW od (.dT ys))):=Ts.turn e2 (fun xs z=>nomatch z) (fun ob w z=>nomatch z);exact ⟨_,e2,(fun xs z=>nomatch z),(fun ob w z=>nomatch z),(fun ps z=>nomatch z),(fun x z=>nomatch z),tt,g.turn tt (.inr ⟨z,ys,aJ,tw.imp fun _ _ q=>⟨q.1,q.2.mono tt⟩⟩)⟩
theorem as9 {K:Fg} {t:Bool} (g:HR K H G) (e:G a=some (.bQ t kvs)):IsD H a:=by
  rcases g a _ e with ⟨_,ys,e2,_⟩ | ⟨_,ys,e2,_⟩
  . exact .inl ⟨ys,.inl e2⟩
  . exact .inr ⟨ys,.inl e2⟩
theorem axN {K:Fg} {t:Bool} (g:HR K H G) (e:G a=some (.rdc od t kvs)):IsD H a:=by
  rcases g a _ e with ⟨_,ys,e2,_⟩ | ⟨_,ys,e2,_⟩
  . exact .inl ⟨ys,.inr ⟨od,e2⟩⟩
  . exact .inr ⟨ys,.inr ⟨od,e2⟩⟩
theorem asA {w:World} {K:Fg} (t:Bool) (hd:od.data = .dict en ep) :
    Turn true tl P w K tg (ItK a od t) [it] it (fun i h=>h.IsKeyIter it a i en.size ep):=by
  cases t with
  | false=>exact aoR rfl hd
  | true=>exact akK rfl hd
theorem afE (hc:X.calm=true) (he:cR X e te) (hSJ:∀ H p od t kvs,(al=false->Fz X p)->SJ H (.key p od t kvs) (ItK p od t)) :
    PI X tg e (fun σ H Q=>∃ ρ G R,SR X.K H ρ σ/\HR X.K H G/\tK al te ρ G R/\∀ src J H' G',Ts H H'->HR X.K H' G'->SJ H' src J->R src G'->Q J H'):=by
  intro pins s σ H Q I h;obtain ⟨ρ,G,R,sr,g,q,kk⟩:=h;refine f9 (he pins s σ H (fun vx H1=>Ts H H1/\∃ x G1,RD X.K H1 x vx/\HR X.K H1 G1/\aaX al x G1 R) I ⟨ρ,G,_,sr,g,q,fun v H1 x G1 t1 r1 g1 q1=>⟨t1,x,G1,r1,g1,q1⟩⟩) fun v s1 ⟨vx,H1,I1,r1,t1,x1,G1,rx,g1,q1⟩=>?_;obtain ⟨a,t,kvs,rfl,q2⟩:=as8 q1;cases rx;obtain rfl:v=Value.ref a:=r1
  have isd:IsD H1 a:=by
    rcases q2 with ⟨e1,_⟩ | ⟨od,e1,_⟩
    . exact as9 g1 e1
    . exact axN g1 e1
  obtain ⟨od,en,ep,o1,o2,o3,hsm⟩:=ahZ I1 isd;refine am5 hsm ⟨od,o1,o2,o3⟩ ?_;have I3:Inv X pins σ H1 { s1 with heap:=s1.heap.push { cls := .type "dict_keyiterator",data := .fields #[.ref a,.int 0 0,.int en.size 0,.int ep 0] },toks:=s1.toks }:=I1.kept fun b o e=>ao _ e;have od3:(s1.heap.push { cls := .type "dict_keyiterator",data := .fields #[.ref a,.int 0 0,.int en.size 0,.int ep 0] }).get? a=some od:=ao _ o1;have hit:(s1.heap.push { cls := .type "dict_keyiterator",data := .fields #[.ref a,.int 0 0,.int en.size 0,.int ep 0] }).IsKeyIter s1.heap.objs.size a 0 en.size ep:=⟨_,cg _ rfl,rfl,rfl⟩;have fr1:H1 s1.heap.objs.size=none:=I1.hok.fresh (au _);rcases q2 with ⟨e1,q3⟩ | ⟨od',e1,ha,q3⟩
  . obtain ⟨u,hu,u1,u2,u3,u4,tt,g4⟩:=axM g1 e1 od;have I4:=I3.freeze hu u1 u2 u3 u4 od3;have na:s1.heap.objs.size≠a:=wu (bh o1);refine ⟨s1.heap.objs.size,[s1.heap.objs.size],_,ItK a od t,_,rfl,I4,(show Turn X.calm X.tp X.prog X.w X.K tg _ _ _ _ from hc ▸ asA t o3),hit,fun b hb=>?_,kk _ _ _ _ (t1.trans tt) g4 (hSJ _ a od t kvs fun _=>Fz.of I1 hu u1 u2 u3) (q3 od)⟩;have e:b=s1.heap.objs.size:=by simpa using hb
    subst e;exact I1.a6T (au _) (by rw [aX na];exact fr1)
  . have od4:s1.heap.get? a=some od':=by
      rcases g1 a _ e1 with ⟨_,zs,e2,_⟩ | ⟨_,zs,e2,_⟩
      . exact (show s1.heap.get? a=some od'/\_ from I1.hok a _ e2).1
      . exact (show s1.heap.get? a=some od'/\_ from I1.hok a _ e2).1
    rw [o1] at od4;obtain rfl:=gk.inj od4;refine ⟨s1.heap.objs.size,[s1.heap.objs.size],_,ItK a od t,_,rfl,I3,(show Turn X.calm X.tp X.prog X.w X.K tg _ _ _ _ from hc ▸ asA t o3),hit,fun b hb=>?_,kk _ _ _ _ t1 g1 (hSJ _ a od t kvs fun z=>by rw [ha] at z;cases z) q3⟩;have e:b=s1.heap.objs.size:=by simpa using hb
    subst e;exact I1.a6T (au _) fr1
theorem aEA (hc:X.calm=true) (he:cR X e te):PI3 X tg e (tK true te):=afE (SJ:=aa9 X.K) hc he fun _ _ _ _ _ _=>ahX
theorem axO (hc:X.calm=true) (he:cR X e te):PIS X tg e (tK true te):=afE (SJ:=fun _=>a8X X.K) hc he fun _ _ _ _ _ _=>ahY
end
end
section
open PySem.W
structure Tt (H H':Hp):Prop where
  tups:∀ a xs,H a=some (.tup xs)->H' a=some (.tup xs)
  aNN:∀ a o xs,H a=some (.lW o (.tup xs))->H' a=some (.lW o (.tup xs))
theorem Tt.sqT {K:Fg} (t:Tt H H') (h:SqT K H a xs):SqT K H' a xs:=by
  rcases h with (h | ⟨o,h⟩) | h
  . exact .inl (.inl (t.tups _ _ h))
  . exact .inl (.inr ⟨o,t.aNN _ _ _ h⟩)
  . exact .inr h
theorem agP.m9 (t:Tt H H') (h:agP H a xs):agP H' a xs:=t.tups _ _ h
mutual
theorem RD.m9 {K:Fg} {H H':Hp} (t:Tt H H'):∀ {d:D} {v:V},RD K H d v->RD K H' d v
  | _,_,.non => .non
  | _,_,.bl b => .bl b
  | _,_,.int i => .int i
  | _,_,.str x => .str x
  | _,_,.ty n => .ty n
  | _,_,.ref a => .ref a
  | _,_,.tup h r e => .tup (t.sqT h) (cN.m9 t r) (e.m9 t)
theorem cN.m9 {K:Fg} {H H':Hp} (t:Tt H H'):∀ {ds:List D} {vs:List V},cN K H ds vs->cN K H' ds vs
  | _,_,.nil => .nil
  | _,_,.cons h r => .cons (RD.m9 t h) (cN.m9 t r)
end
theorem SR.m9 {K:Fg} {H H':Hp} (t:Tt H H'):∀ {ρ:aO} {σ:St},SR K H ρ σ->SR K H' ρ σ
  | _,_,.nil => .nil
  | _,_,.none r => .none (SR.m9 t r)
  | _,_,.some h r => .some (h.m9 t) (SR.m9 t r)
theorem OR.aJU {K:Fg} {o:GO} (t:Tt H H') (h:OR K H a o) (k:∀ u,H a=some u->H' a=some u):OR K H' a o:=by
  cases o with
  | lst ds=>obtain ⟨xs,e,r⟩:=h;exact ⟨xs,k _ e,r.m9 t⟩
  | rol ds =>
    obtain ⟨xs,e,r⟩:=h;refine ⟨xs,?_,r.m9 t⟩;rcases e with (e | ⟨o,e⟩) | e
    . exact .inl (.inl (k _ e))
    . exact .inl (.inr ⟨o,k _ e⟩)
    . exact .inr e
  | bQ b kvs =>
    rcases h with ⟨z,xs,e,r⟩ | ⟨z,xs,e,r⟩
    . exact .inl ⟨z,xs,k _ e,r.imp fun _ _ q=>⟨q.1,q.2.m9 t⟩⟩
    . exact .inr ⟨z,xs,k _ e,r.imp fun _ _ q=>⟨q.1,q.2.m9 t⟩⟩
  | ins C fs=>obtain ⟨dx,vs,e,r⟩:=h;exact ⟨dx,vs,k _ e,r.imp fun _ _ q=>⟨q.1,q.2.m9 t⟩⟩
  | rdc ob b kvs =>
    rcases h with ⟨z,xs,e,r⟩ | ⟨z,xs,e,r⟩
    . exact .inl ⟨z,xs,k _ e,r.imp fun _ _ q=>⟨q.1,q.2.m9 t⟩⟩
    . exact .inr ⟨z,xs,k _ e,r.imp fun _ _ q=>⟨q.1,q.2.m9 t⟩⟩
  | exn C=>obtain ⟨o,vs,e,r⟩:=h;exact ⟨o,vs,k _ e,r⟩
  | tpl ds=>obtain ⟨xs,e,r⟩:=h;exact ⟨xs,t.sqT e,r.m9 t⟩
theorem asB {K:Fg} {t:Bool} (g:HR K H G) (e:G p=some (.rdc od t kvs)) :
    ∃ u,H p=some (.lW od u)/\(∀ xs,u ≠ .tup xs)/\(∀ ob w,u ≠ .lW ob w)/\IsD H p/\Tt H (upd H p u)/\HR K (upd H p u) (aL G p (.bQ t kvs)):=by
  have key:∀ u,H p=some (.lW od u)->(∀ xs,u ≠ .tup xs)->Tt H (upd H p u):=fun u hu h1=>by
    refine ⟨fun a xs q=>?_,fun a o xs q=>?_⟩
    . rw [aX];exact q;intro z;subst z;rw [hu] at q;cases q
    . rw [aX];exact q;intro z;subst z;rw [hu] at q;cases q;exact h1 xs rfl
  have rest:∀ u,Tt H (upd H p u)->OR K (upd H p u) p (.bQ t kvs)->HR K (upd H p u) (aL G p (.bQ t kvs)):=fun u tt new a v q=>by
    by_cases z:a=p
    . subst z;rw [aH] at q;obtain rfl:=gk.inj q;exact new
    . rw [bD z] at q;exact (g a v q).aJU tt fun w y=>by rw [aX z];exact y
  rcases g p _ e with ⟨z,xs,e2,tw⟩ | ⟨z,xs,e2,tw⟩
  . have tt:=key _ e2 (fun xs z=>nomatch z);exact ⟨_,e2,(fun xs z=>nomatch z),(fun ob w z=>nomatch z),.inl ⟨xs,.inr ⟨od,e2⟩⟩,tt,rest _ tt (.inl ⟨z,xs,aJ,tw.imp fun _ _ q=>⟨q.1,q.2.m9 tt⟩⟩)⟩
  . have tt:=key _ e2 (fun xs z=>nomatch z);exact ⟨_,e2,(fun xs z=>nomatch z),(fun ob w z=>nomatch z),.inr ⟨xs,.inr ⟨od,e2⟩⟩,tt,rest _ tt (.inr ⟨z,xs,aJ,tw.imp fun _ _ q=>⟨q.1,q.2.m9 tt⟩⟩)⟩
section
variable {X:Cx} {pins:List (Addr×Obj)} {σ:St} {H:Hp} {s:Shared}
theorem Inv.akL (I:Inv X pins σ H s) (fz:Fz X p) (hu:H p=some (.lW od u)) (h1:∀ xs,u ≠ .tup xs) (isd:IsD H p):Inv X pins σ (upd H p u) s:=by
  have ne:∀ {b:Addr} {v:HO},H b=some v->v ≠ .lW od u->b≠p:=fun e n z=>by subst z;rw [hu] at e;exact n (gk.inj e).symm
  have no:∀ {b:Addr},H b=none->upd H p u b=none:=fun {b} e=>by
    rw [aX];exact e;intro z;subst z;rw [hu] at e;cases e
  have kt:∀ b xs,H b=some (.tup xs)->upd H p u b=some (.tup xs):=fun b xs q=>by rw [aX (ne q fun z=>nomatch z)];exact q
  have ko:∀ b x,H b=some (.own x)->upd H p u b=some (.own x):=fun b x q=>by rw [aX (ne q fun z=>nomatch z)];exact q
  obtain ⟨ho,hok⟩:=(show s.heap.get? p=some od/\gQ X.prog X.w H s.heap p u from I.hok p _ hu);refine ⟨I.ok,I.os,I.bare,⟨I.base.keep,I.base.slot,fun b ob q n hx=>?_,I.base.there,fun b xs q=>kt b xs (I.base.tups b xs q),fun b ob w q=>?_,fun b ps q=>?_⟩,I.loc,I.cell,no I.free,fun x c e=>no (I.m8 x c e),fun q hq=>?_,fun b v e=>?_,I.len,?_,fun q hq=>kt _ _ (I.tup q hq)⟩
  . exact no (I.base.free b ob q n hx)
  . have:=I.base.m7 b ob w q;rw [aX];exact this;intro z;subst z;exact fz.lW ob w q
  . obtain ⟨more,e⟩:=I.base.uY b ps q;exact ⟨more,by rw [aX (ne e fun z=>nomatch z)];exact e⟩
  . obtain ⟨z1,z2,z3⟩:=I.pin q hq;exact ⟨z1,no z2,z3⟩
  . by_cases hb:b=p
    . subst hb;rw [aJ] at e;obtain rfl:=gk.inj e;exact hok.stay (fun _ _ _ q=>q) (fun c q=>ko c _ q) fun c xs q=>kt c xs q
    . rw [aX hb] at e;exact (I.hok b v e).stay (fun _ _ _ q=>q) (fun c q=>ko c _ q) fun c xs q=>kt c xs q
  . rcases I.hnd with z | ⟨x,o,w,vs,a,b,c,d⟩
    . exact .inl z
    . refine .inr ⟨x,o,w,vs,a,?_,c,d⟩;rw [aX];exact b;intro z;subst z;rw [hu] at b;cases b;obtain ⟨od',en,ep,o1,_,o3,_⟩:=ahZ I isd;rw [ho] at o1;cases o1;rw [o3] at c;cases c
end
noncomputable def Src.akL (G:Gp):Src->Gp
  | .itm p _ kvs=>aL G p (.bQ false kvs)
  | .key p _ t kvs=>aL G p (.bQ t kvs)
  | _=>G
noncomputable def FzS (X:Cx):Src->Prop
  | .itm p _ _=>Fz X p
  | .key p _ _ _=>Fz X p
  | _=>True
noncomputable def aNO (X:Cx) (t:TI3):TI:=fun σ H Q=>∃ ρ G R,SR X.K H ρ σ/\HR X.K H G/\t ρ G R/\∀ src J H' G',Ts H H'->HR X.K H' G'->(a8X X.K src J/\FzS X src)->R src G'->Q J H'
noncomputable abbrev PIF (X:Cx) (tg iter:Expr) (t:TI3):Prop:=PI X tg iter (aNO X t)
section
variable {X:Cx}
theorem asC {pt:Pos} (hc:X.calm=true) (ho:cR X o to) (hbase:attributeBase o "items" X.env (eval o X.env)=eval o X.env) (hline:(apos.endLine == cpos.line)=true) :
    PIF X (.Tuple es kt pt) (.Call (.Attribute o "items" apos) [] [] cpos) (sG false to):=aaW (SJ:=fun _ src J=>a8X X.K src J/\FzS X src) hc ho hbase hline fun _ _ _ _ z=>⟨ahV,z rfl⟩
theorem axP (hc:X.calm=true) (he:cR X e te):PIF X tg e (tK false te):=afE (SJ:=fun _ src J=>a8X X.K src J/\FzS X src) hc he fun _ _ _ _ _ z=>⟨ahY,z rfl⟩
end
noncomputable def a2D (ti:TI3) (tg:TG3) (tb:bJ):bJ:=fun F ρ G=>ti ρ G fun src G1=>∃ P:Nat->aO->Gp->Prop,P 0 ρ G1/\(∀ k ρ G,k<=src.items.length->P k ρ G->src.ok G) /\
  (∀ k d ρ G,src.items[k]?=some d->P k ρ G->tg d ρ fun ρ2=>tb { F with nx:=P (k+1),ct:=P (k+1),bk:=fun ρ G=>src.ok G/\F.nx ρ (src.akL G) } ρ2 G)/\∀ ρ G,P src.items.length ρ G->F.nx ρ (src.akL G)
noncomputable def ThN (X:Cx) (E:fX) (σ:St) (H:Hp):Prop:=∃ src ρ G,FzS X src/\SR X.K H ρ σ/\HR X.K H G/\src.ok G/\E.nx ρ (src.akL G)
theorem asD {σ:St} {E:fX} {F:Ends} (u:UpD X.K E F) (I:Inv X pins σ H s) (h:ThN X E σ H):∃ H',Inv X pins σ H' s/\F.nx σ H':=by
  obtain ⟨src,ρ,G,fz,sr,g,ok,q⟩:=h
  have one:∀ {p:Addr} {od:Obj} {t:Bool} {kvs:List (DK×D)},Fz X p->G p=some (.rdc od t kvs)->E.nx ρ (aL G p (.bQ t kvs))->∃ H',Inv X pins σ H' s/\F.nx σ H':=fun fz e q=>by
    obtain ⟨w,hw,w1,w2,isd,tt,g'⟩:=asB g e;exact ⟨_,I.akL fz hw w1 isd,u.nx _ _ _ _ (sr.m9 tt) g' q⟩
  cases src with
  | itm p o kvs=>exact one fz ok q
  | key p o t kvs=>exact one fz ok q
  | lst p xs=>exact ⟨H,I,u.nx _ _ _ _ sr g q⟩
  | imm xs=>exact ⟨H,I,u.nx _ _ _ _ sr g q⟩
  | zip p r xs ys=>exact ⟨H,I,u.nx _ _ _ _ sr g q⟩
  | tpl p xs=>exact ⟨H,I,u.nx _ _ _ _ sr g q⟩
  | enu p xs=>exact ⟨H,I,u.nx _ _ _ _ sr g q⟩
section
variable {X:Cx}
theorem axQ {tg:TG3} (hp:PassesOwn (model X.prog X.w) X.A X.env X.xe) (hi:PIF X tgt iter ti) (hg:PG3 X tgt tg) (hb:a6Y X body tb)
    (hs:∀ x,foldedSetIterable iter X.env x=pure x):PS3 X (.For tgt iter body [] pos) (a2D ti tg tb):=by
  intro pins s σ H F I h;obtain ⟨ρ,G,E,sr,g,q,d⟩:=h;have key:=apY (pos:=pos) hp hi hg hb hs pins s σ H { F with nx:=ThN X E } I ⟨ρ,G,_,sr,g,q,fun src J H1 G1 t1 g1 ⟨sj,fz⟩ ⟨P,p0,pok,pst,pend⟩=>?_⟩
  . refine f9 key fun f s' z=>?_;cases f with
    | next=>obtain ⟨σ',H',J,z⟩:=z;obtain ⟨H2,J2,z2⟩:=asD d J z;exact ⟨σ',H2,J2,z2⟩
    | brk=>obtain ⟨σ',H',J,z⟩:=z;exact ⟨σ',H',J,z⟩
    | cont=>obtain ⟨σ',H',J,z⟩:=z;exact ⟨σ',H',J,z⟩
    | ret w=>obtain ⟨w,σ',H',J,r,z⟩:=z;exact ⟨w,σ',H',J,r,z⟩
  . refine agT (K:=X.K) (n:=src.items.length) (fun k σ2 H2=>∃ ρ' G',SR X.K H2 ρ' σ2/\HR X.K H2 G'/\P k ρ' G') ⟨ρ,G1,sr.mono t1,g1,p0⟩ (fun σ2 H2 ⟨ρ',G',s2,g2,p⟩=>?_) (fun k σ2 H2 hk ⟨ρ',G',s2,g2,p⟩=>?_) (fun k y σ2 H2 H3 hk ⟨ρ',G',s2,g2,p⟩ hy=>?_)
      (fun σ2 H2 ⟨ρ',G',s2,g2,p⟩=>⟨src,ρ',G',fz,s2,g2,pok _ ρ' G' (au _) p,pend ρ' G' p⟩)
    . exact (sj H2 G' g2 (pok _ ρ' G' (au _) p)).2.2
    . exact (sj H2 G' g2 (pok _ ρ' G' (qb hk) p)).1 k hk
    . obtain ⟨sm,dk,e1,e2⟩:=(sj H2 G' g2 (pok _ ρ' G' (qb hk) p)).2.1 k y H3 hk hy;refine ⟨ρ',dk,_,s2.mono (.same sm),e2,pst k dk ρ' G' e1 p,fun ρ2 σ3 s3 q3=>?_⟩;exact ⟨ρ2,G',_,s3,g2.same sm,q3,⟨fun ρ4 G4 σ4 H4 s4 g4 q4=>⟨ρ4,G4,s4,g4,q4⟩,d.rt,fun ρ4 G4 σ4 H4 s4 g4 q4=>⟨src,ρ4,G4,fz,s4,g4,q4.1,q4.2⟩,fun ρ4 G4 σ4 H4 s4 g4 q4=>⟨ρ4,G4,s4,g4,q4⟩⟩⟩
end
end
section
open PySem.W
section
variable {X:Cx}
noncomputable def yP (x:D) (G:Gp) (R:j4):Prop:=match x with
  | .ref a=>(match zQ G a with
    | some (false,kvs)=>∀ l,G l=none->R (.ref l) (aL G l (.lst (kvs.map (·.2))))
    | _=>False)
  | _=>False
theorem akM (h:yP x G R):∃ a kvs,x = .ref a/\zQ G a=some (false,kvs)/\∀ l,G l=none->R (.ref l) (aL G l (.lst (kvs.map (·.2)))):=by
  unfold yP at h;split at h
  . rename_i a;split at h
    . rename_i kvs e;exact ⟨a,kvs,rfl,e,h⟩
    . exact h.elim
  . exact h.elim
noncomputable def a9L (to:cL):cL:=fun ρ G R=>to ρ G fun x G1=>yP x G1 R
theorem axR {vs:List (Key×Value)} (r:KV ys vs):Vals (ys.map (·.2)) (vs.map (·.2)):=by
  induction r with
  | nil=>exact .nil
  | cons h _ ih=>exact .cons h.2 ih
theorem asF {K:Fg} (t:v7 K H .inl kvs ys):cN K H (kvs.map (·.2)) (ys.map (·.2)):=by
  induction t with
  | nil=>exact .nil
  | cons h _ ih=>exact .cons h.2 ih
theorem axS {x:Str} {p:Pos} (hc:X.calm=true) (ho:cR X o to) (hg:Gl X x) (hm:X.mg x=none) (hv:bootBuiltins x=some (.type "list")) (hn:x ≠ "__name__") (hdb:(x == ("__debug__" : Str))=false)
    (hbase:attributeBase o "values" X.env (eval o X.env)=eval o X.env) (hline:(apos.endLine == cpos.line)=true) :
    cR X (.Call (.Name x p) [.Call (.Attribute o "values" apos) [] [] cpos] [] pos) (a9L to):=by
  intro pins s σ H Q I h;obtain ⟨ρ,G,R,sr,g,q,kk⟩:=h;refine wpAny_Call_Name_kw (a3P I hg hm hv ?_ hn hdb);refine PyProof.Rows.callWith_type1 (Calls.spliced_cons ?_);refine wpAny_Call_method0_late hbase hline (f9 (ho pins s σ H (fun vx H1=>Ts H H1/\∃ x G1,RD X.K H1 x vx/\HR X.K H1 G1/\yP x G1 R) I ⟨ρ,G,_,sr,g,q,fun v H1 x G1 t1 r1 g1 q1=>⟨t1,x,G1,r1,g1,q1⟩⟩) fun v s1 ⟨vx,H1,I1,r1,t1,x1,G1,rx,g1,q1⟩=>?_);obtain ⟨a,kvs,rfl,e1,hq⟩:=akM q1;cases rx;obtain rfl:v=Value.ref a:=r1;rcases ahH g1 e1 with ⟨_,ys,ed,tw⟩ | ⟨z,_⟩
  . obtain ⟨h1,h2,h3⟩:=a6W I1 (.inl ⟨ys,ed⟩);refine ⟨"dict", "dict.values",PySem.F.plainAttrs_dict,PySem.F.slot_dict_values,PySem.F.type_dict_values,h1,h2,Calls.callWith_builtin rfl (PySem.evalArgs_none ?_)⟩;obtain ⟨z1,hsm,vs,kv,hd⟩:=zO I1.hok ed;refine call_meetsIn PySem.F.slot_dict_values h1 PySem.F.entry_dict_values (PySem.F.args_dict_values_1 _) (meets_dict_values (aP X.prog X.w) a hsm) ⟨⟨vs,hd⟩,?_⟩;refine Calls.spliced_nil ?_;obtain ⟨o,es,ep,q1,q2,q3,q4,q5,q6⟩:=hd;have I2:Inv X pins σ H1 { s1 with heap:=s1.heap.push { cls := .type "dict_values",data := .fields #[.ref a] },toks:=s1.toks }:=I1.kept fun b o e=>ao _ e;have hat:(s1.heap.push { cls := .type "dict_values",data := .fields #[.ref a] }).DictAt (aP X.prog X.w) a vs ep:=⟨o,es,ao _ q1,q2,q3,q4,q5,q6⟩;have hvw:(s1.heap.push { cls := .type "dict_values",data := .fields #[.ref a] }).IsValuesView s1.heap.objs.size a:=⟨_,cg _ rfl,rfl,rfl⟩;generalize s1.heap.push { cls := .type "dict_values",data := .fields #[.ref a] }=hp at *;have lv:ys.length=vs.length:=Paired.length kv;refine kdl_call (s:={ s1 with heap:=hp }) (kdl_values (prog:=X.prog) (w:=X.w) (knd:=aP X.prog X.w) (r:=s1.heap.objs.size) (d:=a) (kvs:=vs) (ep:=ep)) (I1.ok.hd hc) ⟨hvw,hat⟩ (by omega) fun h' tk acc c k2 hS hacc=>?_;have fr:H1 hp.objs.size=none:=I2.hok.fresh (au _);have sn:Same H1 (upd H1 hp.objs.size (.lst (ys.map (·.2)))):=bU fr
    have aJW:acc.toList=vs.map (·.2):=by
      apply List.ext_getElem?;intro i;by_cases hi:i < vs.length
      . have hi2:i < acc.size:=by rw [hacc.1];exact hi
        obtain ⟨kq,e2⟩:=hacc.2 i acc[i] (qw hi2);rw [tu,qw hi2,qg,e2];rfl
      . rw [qp (by rw [nu,hacc.1];omega),qp (by simp;omega)]
    have J:Inv X pins σ (upd H1 hp.objs.size (.lst (ys.map (·.2)))) { s1 with heap:=h',toks:=tk }:=I2.laid (t':=tk) (o := .lst _) k2 (au _) ⟨by simp;omega,_,c,axR kv,by rw [← aJW];simpa using hS⟩;exact ⟨.ref hp.objs.size,_,J,rfl,kk _ _ (.ref _) _ (t1.trans (.same sn)) (.ref _) (g1.put (u := .lst _) fr ⟨_,aJ,(asF tw).mono (.same sn)⟩) (hq _ (nQ g1 fr (wN J)))⟩
  . cases z
end
end
section
section
open AutoSeq1 (wpAny_loadPart')
end
section
variable {prog:Program} {w:World} {A:Around} {E:Value->Shared->Prop} {s:Shared}
end
section
variable {prog:Program} {w:World} {A:Around} {R:Result->Shared->Prop} {I:Addr} {fp wr:List Addr} {P:Nat->Value->Prop} {St:Nat->Heap->Prop}
end
section
open PySem.SeqAt
open PySem.AutoSeq1 (wpAny_loadPart')
open PySem.MeetsSeq PySem.MeetsSeq2 PySem.MeetsSeq3
end
end
section
section
variable {X:Cx} {es:List Expr} {kt:Nat} {pt:Pos}
end
end
section
noncomputable def ae0:R3:=fun x y G R=>match y with
  | .ref p=>(match bY G p with
    | some ys=>aQ 20 x=true/\ys.all (aQ 20)=true/\R (.bl (!(ys.any fun y=>eqP y x))) G
    | none=>False)
  | _=>False
section
variable {X:Cx}
open Classical in
theorem asG {pins:List (Addr×Obj)} {σ:St} {H:Hp} {s:Shared} (I:Inv X pins σ H s) {A:Around} {x:D} {vx:V} {u:Value} (hu:A.units+20 < cLine) (hx:aQ 20 x=true) (rx:RD X.K H x vx) (ru:RelV vx u):∀ {ys:List D} {vs:List V} {us:List Value},cN X.K H ys vs->Vals vs us->ys.all (aQ 20)=true ->
    ∃ e:Value->Bool,(∀ w∈us,SeqAt.EqAt A s w u (e w))/\us.any e=ys.any (fun y=>eqP y x)/\∀ (y:D) (v:V) (w:Value),aQ 20 y=true->RD X.K H y v->RelV v w->w∈us->e w=eqP y x
  | _,_,_,.nil,.nil,_=>⟨fun _=>false,(fun w hw=>by cases hw),rfl,fun y v w _ _ _ hw=>by cases hw⟩
  | y :: ys,v :: vs,w :: us,.cons r rr,.cons q qq,h=>by
    rw [qm,ak] at h;obtain ⟨e,e1,e2,e3⟩:=asG I hu hx rx ru rr qq h.2
    have same:∀ (y':D) (v':V),aQ 20 y'=true->RD X.K H y' v'->RelV v' w->y'=y:=fun y' v' s' r' q'=>by
      have:v'=v:=q'.inj q;subst this;exact RD.inj I s' h.1 r' r
    refine ⟨fun z=>if z=w then eqP y x else e z,fun z hz=>?_,?_,fun y' v' z s' r' q' hz=>?_⟩
    . by_cases c:z=w
      . simp only [c,if_true];exact aa5 I 20 A y x v vx w u hu h.1 hx r rx q ru
      . simp only [c,if_false];exact e1 z ((ig.mp hz).resolve_left c)
    . rw [qz,qz,← e2];simp only [if_true];by_cases b:eqP y x=true
      . rw [b];rfl
      . congr 1;by_cases m:w∈us
        . have ew:e w=eqP y x:=e3 y v w h.1 r q m;congr 1;funext z;by_cases c:z=w
          . simp only [c,if_true];exact ew.symm
          . simp only [c,if_false]
        . rw [Bool.eq_iff_iff,yx,yx];constructor
          . rintro ⟨z,hz,hq⟩;exact ⟨z,hz,by rw [if_neg (show ¬ z=w from fun c=>m (c ▸ hz))] at hq;exact hq⟩
          . rintro ⟨z,hz,hq⟩;exact ⟨z,hz,by rw [if_neg (show ¬ z=w from fun c=>m (c ▸ hz))];exact hq⟩
    . by_cases c:z=w
      . subst c;simp only [if_true];rw [same y' v' s' r' q']
      . simp only [c,if_false];exact e3 y' v' z s' r' q' ((ig.mp hz).resolve_left c)
theorem aEB (hu:X.A.units+64 < cLine):rA X (compareOp .NotIn) ae0:=a70 fun pins s σ H x y vx vy u v G R Q I rx ry ru rv g q k=>by
  unfold ae0 at q;split at q
  . rename_i p;split at q
    . rename_i ys e;obtain ⟨h1,h2,q⟩:=q;cases ry;cases rv;obtain ⟨zs,hq,rr⟩:=d8 g e;obtain ⟨its,rv',pl,hz⟩:=I.list hq;obtain ⟨f,f1,f2,_⟩:=asG I (A:=X.A.in1) (by show X.A.units+1+20 < cLine;omega) h1 rx ru rr rv' h2;refine SeqAt.notIn_listAt f pl.isList (fun w hw=>f1 w (by simpa using hw)) ⟨.bl _,H,I,rfl,?_⟩;rw [show its.toArray.any f=its.any f by simp,f2];exact k _ H _ G (.refl H) (.bl _) g q
    . exact q.elim
  . exact q.elim
end
end
end L2
namespace L4
open PySem PySem.Spec PyProof.Rows L2
inductive BF where
  | len | isi | min | max | sum | ae1 | asH | ai0 | ai1
  deriving DecidableEq
inductive MK where
  | append | pop | a7C
  deriving DecidableEq
inductive DM where
  | sdf | pop
  deriving DecidableEq
inductive GT where
  | con (d:D) | cls (a:Addr) | fn (sp:uX) (n:Nat) (qt:Bool) | bf (b:BF) | bt (n:String) | kl (C:Addr) (sp:uX) (dd:List D) | me (C:Addr) (m:Str) (sp:uX) (dd:List D) | fl (C:Addr) (f:Str)
structure SI where
  N:List Str
  fl:List Bool
  lc:List Bool
  ce:List Bool
  gl:List (Str×GT)
  gv:List Bool
  calm:Bool
mutual
inductive CE where
  | var (i:Nat) | con (d:D) | glo (k:Nat) | neg (a:CE) | axT (a:CE) | bin (o:Operator) (a b:CE) | cmp (o:CmpOp) (a b:CE) | chain (o o':CmpOp) (a b c:CE)
  | asI (es:CEs) | tup (es:CEs) | lst (es:CEs) | dct | ix (a b:CE) | call (k:Nat) (es:CEs) | meth (m:MK) (o:CE) (es:CEs)
  | comp (fl gv:List Bool) (ci:CI) (cc:CC) (e:CE) | fld (k:Nat) (o:CE) | rP (k:Nat) (o:CE) (es:CEs) | dix (a b:CE) | din (neg:Bool) (a b:CE) | dgt (o e f:CE) | asK | dm (m:DM) (o e:CE) (es:CEs) | sortI (k:Nat) (o:CE) | axV (k:Nat) (o:CE) | amJ (k:Nat) (o:CE) | deq (neg:Bool) (a b:CE)
inductive CEs where
  | nil | cons (e:CE) (r:CEs)
inductive CT where
  | cmp (o:CmpOp) (a b:CE) | chain (o o':CmpOp) (a b c:CE) | not (t:CT) | and (ts:CTs) | or (ts:CTs) | val (e:CE) | din (neg:Bool) (a b:CE) | deq (neg:Bool) (a b:CE) | ntu (a b:CE)
inductive CTs where
  | nil | cons (t:CT) (r:CTs)
inductive CO where
  | none | some (e:CE)
inductive CI where
  | any (e:CE) | akN (e:CE) | items (e:CE) | keys (e:CE)
inductive CC where
  | none | some (t:CT)
end
noncomputable abbrev SI.cmp (S:SI) (xs:List Str) (fl gv:List Bool):SI:=⟨xs++S.N,xs.map (fun _=>true)++fl,xs.map (fun _=>true)++S.N.map (fun _=>false),xs.map (fun _=>false)++fl,S.gl,gv,S.calm⟩
noncomputable def akO:cL:=fun _ _ _=>False
noncomputable def aAE:TT3:=fun _ _ _=>False
noncomputable def NoX:aO->aZ:=fun _ _ _=>False
noncomputable def aAF:Operator->R3
  | .Add=>fU
  | .Sub=>adI
  | .Mult=>a0B
  | .FloorDiv=>fL
  | .Mod=>dJ
  | .Pow=>adJ
  | _=>fun _ _ _ _=>False
noncomputable def aaY:CmpOp->R3
  | .Eq=>a5L
  | .NotEq=>a8V
  | .Lt=>ao5
  | .LtE=>aqI
  | .Gt=>aqH
  | .GtE=>aIL
  | .Is=>ao7
  | .IsNot=>aa3
  | .In=>aJ0
  | .NotIn=>alX
noncomputable def aPA:Bool->R3
  | true=>aJD
  | false=>aJC
noncomputable def aJX (K:Fg):BF->List D->Gp->j4->Prop
  | .len=>a0E
  | .isi=>aF K
  | .min=>af4
  | .max=>af3
  | .sum=>ah9
  | .ae1=>af6
  | .asH=>a77
  | .ai0=>vA
  | .ai1=>yN
noncomputable def aEC (n:String):List D->Gp->j4->Prop:=if n = "int" then adP else if n = "list" then aqR else if n = "str" then aAA else if n = "tuple" then amA else fun _ _ _=>False
noncomputable def dmN:DM->Str
  | .sdf => "setdefault"
  | .pop => "pop"
noncomputable def dmR:DM->RM3
  | .sdf=>a8C
  | .pop=>a76
noncomputable def mkT:MK->String
  | .append => "list"
  | .pop => "list"
  | .a7C => "list"
noncomputable def mkR:MK->RM3
  | .append=>ah2
  | .pop=>aA7
  | .a7C=>wW
noncomputable def mkN:MK->Str
  | .append => "append"
  | .pop => "pop"
  | .a7C => "index"
noncomputable def aED (T:List (Str×GT)) (k:Nat):cL:=match T[k]? with
  | some (_,.con d)=>bC d
  | some (_,.cls a)=>bC (.ref a)
  | some (_,.bt n)=>bC (.ty n)
  | _=>akO
noncomputable def aEE (T:List (Str×GT)) (K:Fg) (ex:aO->aZ) (k:Nat) (t:yH):cL:=match T[k]? with
  | some (_,.fn sp _ _)=>aV sp ex t
  | some (_,.cls a)=>arG a t
  | some (_,.bf b)=>lX (aJX K b) t
  | some (_,.bt n)=>lX (aEC n) t
  | some (_,.kl C sp dd)=>aaI C sp dd ex t
  | _=>akO
noncomputable def aEF (T:List (Str×GT)) (k:Nat) (t:cL):cL:=match T[k]? with
  | some (_,.fl C f)=>lU C t f
  | _=>akO
noncomputable def aEG (T:List (Str×GT)) (ex:aO->aZ) (k:Nat) (to:cL) (t:yH):cL:=match T[k]? with
  | some (_,.me C m sp dd)=>jJ C m sp dd ex to t
  | _=>akO
noncomputable def aEH:Bool->R3
  | true=>aaM
  | false=>ahI
mutual
noncomputable def mE (T:List (Str×GT)) (K:Fg) (ex:aO->aZ):CE->cL
  | .var i=>aB i
  | .con d=>bC d
  | .glo k=>aED T k
  | .neg a=>agX (mE T K ex a)
  | .axT a=>aeV (mE T K ex a)
  | .bin o a b=>aG (aAF o) (mE T K ex a) (mE T K ex b)
  | .cmp o a b=>aG (aaY o) (mE T K ex a) (mE T K ex b)
  | .chain o o' a b c=>v8 (aaY o) (aaY o') (mE T K ex a) (mE T K ex b) (mE T K ex c)
  | .asI es=>aEI T K ex es
  | .tup es=>tD (mA T K ex es)
  | .lst es=>rO (mA T K ex es)
  | .dct=>vY
  | .ix a b=>aG iQ (mE T K ex a) (mE T K ex b)
  | .call k es=>aEE T K ex k (mA T K ex es)
  | .meth m o .nil=>aD1 (mkT m) (mkR m) (mE T K ex o)
  | .meth m o (.cons e r)=>tM3 (mkT m) (mkR m) (mE T K ex o) (aA (mE T K ex e) (mA T K ex r))
  | .comp _ _ ci cc e=>aaC (mI T K ex ci) (mC T K cc) (mE T K NoX e)
  | .fld k o=>aEF T k (mE T K ex o)
  | .rP k o es=>aEG T ex k (mE T K ex o) (mA T K ex es)
  | .dix a b=>aG mX (mE T K ex a) (mE T K ex b)
  | .din neg a b=>aG (aEH neg) (mE T K ex a) (mE T K ex b)
  | .dgt o e f=>nT (mE T K ex o) (mE T K ex e) (mE T K ex f)
  | .asK=>a5N
  | .dm m o e es=>akD (dmR m) (mE T K ex o) (aA (mE T K ex e) (mA T K ex es))
  | .sortI _ o=>a5U (mE T K ex o)
  | .axV _ o=>afC (mE T K ex o)
  | .amJ _ o=>a9L (mE T K ex o)
  | .deq neg a b=>aG (aaS neg) (mE T K ex a) (mE T K ex b)
noncomputable def mA (T:List (Str×GT)) (K:Fg) (ex:aO->aZ):CEs->yH
  | .nil=>aD
  | .cons e r=>aA (mE T K ex e) (mA T K ex r)
noncomputable def aEI (T:List (Str×GT)) (K:Fg) (ex:aO->aZ):CEs->cL
  | .nil=>akO
  | .cons e .nil=>mE T K ex e
  | .cons e (.cons e' r)=>a3R (mE T K ex e) (aEI T K ex (.cons e' r))
noncomputable def mOr (T:List (Str×GT)) (K:Fg) (ex:aO->aZ):CEs->cL
  | .nil=>akO
  | .cons e .nil=>mE T K ex e
  | .cons e (.cons e' r)=>azZ (mE T K ex e) (mOr T K ex (.cons e' r))
noncomputable def mT (T:List (Str×GT)) (K:Fg) (ex:aO->aZ):CT->TT3
  | .cmp o a b=>bB (aG (aaY o) (mE T K ex a) (mE T K ex b))
  | .chain o o' a b c=>bB (v8 (aaY o) (aaY o') (mE T K ex a) (mE T K ex b) (mE T K ex c))
  | .not t=>wO (mT T K ex t)
  | .and ts=>asL T K ex ts
  | .or ts=>aEJ T K ex ts
  | .val e=>bB (mE T K ex e)
  | .din neg a b=>bB (aG (aEH neg) (mE T K ex a) (mE T K ex b))
  | .deq neg a b=>bB (aG (aaS neg) (mE T K ex a) (mE T K ex b))
  | .ntu a b=>bB (aG ae0 (mE T K ex a) (mE T K ex b))
noncomputable def asL (T:List (Str×GT)) (K:Fg) (ex:aO->aZ):CTs->TT3
  | .nil=>aAE
  | .cons e .nil=>mT T K ex e
  | .cons e (.cons e' r)=>adH (mT T K ex e) (asL T K ex (.cons e' r))
noncomputable def aEJ (T:List (Str×GT)) (K:Fg) (ex:aO->aZ):CTs->TT3
  | .nil=>aAE
  | .cons e .nil=>mT T K ex e
  | .cons e (.cons e' r)=>aa2 (mT T K ex e) (aEJ T K ex (.cons e' r))
noncomputable def mO (T:List (Str×GT)) (K:Fg) (ex:aO->aZ):CO->TO3
  | .none=>agS
  | .some e=>aqL (mE T K ex e)
noncomputable def mI (T:List (Str×GT)) (K:Fg) (ex:aO->aZ):CI->TI3
  | .any e=>a71 (mE T K ex e)
  | .akN e=>a72 (aA (mE T K ex e) aD)
  | .items e=>sG true (mE T K ex e)
  | .keys e=>tK true (mE T K ex e)
noncomputable def mC (T:List (Str×GT)) (K:Fg):CC->TT3
  | .none=>af0
  | .some t=>mT T K NoX t
end
noncomputable def isStar:Expr->Bool
  | .Starred ..=>true
  | _=>false
noncomputable def isSlice:Expr->Bool
  | .Slice ..=>true
  | _=>false
noncomputable def bO:Expr->Bool
  | .Call (.Name id _) [] [] _=>id != ("super" : Str)
  | _=>true
noncomputable def isSet:Expr->Bool
  | .Set ..=>true
  | _=>false
noncomputable def aEK:BF->String
  | .len => "len"
  | .isi => "isinstance"
  | .min => "min"
  | .max => "max"
  | .sum => "sum"
  | .ae1 => "sorted"
  | .asH => "len"
  | .ai0 => "sorted"
  | .ai1 => "dict"
noncomputable def amK:BF->Value
  | .ai1 => .type "dict"
  | b => .builtin (aEK b)
noncomputable def akP:BF->Bool
  | .len=>true
  | .isi=>true
  | .asH=>true
  | .ae1=>true
  | _=>false
noncomputable def a5W (S:SI):Bool:=(ji S.gl.length).any fun k=>S.gv[k]? == some true&&match S.gl[k]? with
  | some (y,.bt n)=>y == ("range" : Str)&&n == "range"
  | _=>false
noncomputable def aPD (S:SI) (k:Nat) (x:Str):Bool:=match S.gl[k]? with
  | some (y,.bf b)=>y == x&&amK b == .builtin "max"
  | _=>false
noncomputable def aEL (S:SI) (y:Str):Bool:=(ji S.N.length).any fun i=>S.N[i]? == some y&&S.ce[i]? == some true
noncomputable def afF:List Str->Bool
  | []=>true
  | x :: r=>!r.contains x&&afF r
noncomputable def ae2 (S:SI) (xs:List Str) (scope:Scope) (fl gv:List Bool):Bool :=
  scope.kind == .function&&scope.names.all (fun y=>y.2 != .cell&&(y.2 != .local || scope.names.lookup y.1 == some .local)&&(y.2 != .free || aEL S y.1)) &&
  xs.all (fun x=>scope.names.lookup x == some .local&&!S.N.contains x&&x != ("__debug__" : Str)&&x != ("__classdict__" : Str))&&afF xs &&
  S.N.all (fun y=>scope.names.lookup y != some .local) &&
  (ji S.N.length).all (fun i=>fl[i]? != some true || (S.fl[i]? == some true&&match S.N[i]? with
    | some y=>scope.names.lookup y == some .free
    | none=>false)) &&
  (ji S.gl.length).all (fun k=>gv[k]? != some true || match S.gl[k]? with
    | some (y,_)=>scope.names.lookup y == some .globalImplicit
    | none=>false)
noncomputable def aAG:D->Const->Bool
  | .int i,.int j=>i == j
  | .str s,.str t=>s == t
  | .bl b,.bool c=>b == c
  | .non,.none=>true
  | _,_=>false
noncomputable def plainT:Expr->Bool
  | .UnaryOp .Not _ _=>false
  | .BoolOp ..=>false
  | .IfExp ..=>false
  | .Compare ..=>false
  | _=>true
noncomputable def asM (S:SI) (k:Nat) (x:Str):Bool:=match S.gl[k]? with
  | some (y,.con _)=>y == x
  | some (y,.cls _)=>y == x
  | some (y,.bt _)=>y == x
  | _=>false
noncomputable def amL (S:SI) (k:Nat) (x:Str) (e:Bool):Bool:=match S.gl[k]? with
  | some (y,.fn _ _ qt)=>y == x&&(qt || S.calm)
  | some (y,.cls _)=>y == x
  | some (y,.bf b)=>y == x&&e&&(S.calm || akP b)
  | some (y,.bt _)=>y == x&&e
  | some (y,.kl _ _ _)=>y == x&&S.calm
  | _=>false
noncomputable def aoT (S:SI) (k:Nat) (x:Str):Bool:=match S.gl[k]? with
  | some (_,.fl _ f)=>f == x
  | _=>false
noncomputable def axY (S:SI) (k:Nat) (x:Str):Bool:=match S.gl[k]? with
  | some (_,.me _ m _ _)=>m == x
  | _=>false
noncomputable def aoU (S:SI) (k:Nat) (x:Str) (nm:String):Bool:=match S.gl[k]? with
  | some (y,.bf b)=>y == x&&amK b == .builtin nm
  | _=>false
noncomputable def axZ (S:SI) (k:Nat) (x:Str) (nm:String):Bool:=match S.gl[k]? with
  | some (y,.bt n)=>y == x&&n == nm
  | _=>false
noncomputable def oK:Expr->Option (Expr×Str×Bool)
  | .Call (.Attribute y n ap) [] [] cp=>some (y,n,ap.endLine == cp.line)
  | _=>none
noncomputable def aLL:Expr->Option (Str×Expr)
  | .Call (.Name x _) [z] [] _=>some (x,z)
  | _=>none
mutual
noncomputable def kE (S:SI):CE->Expr->Bool
  | .var i,.Name x _=>S.N[i]? == some x&&S.fl[i]? == some true
  | .con d,.Constant c _ _=>aAG d c
  | .glo k,.Name x _=>S.gv[k]? == some true&&asM S k x
  | .neg a,.UnaryOp .USub e _=>kE S a e
  | .axT a,.UnaryOp .Not e _=>kE S a e
  | .bin o a b,.BinOp x o' y _=>o == o'&&kE S a x&&kE S b y
  | .cmp o a b,.Compare x [o'] [y] _=>o == o'&&!behindInMarks o' y&&kE S a x&&kE S b y
  | .chain o o' a b c,.Compare x [p,p'] [y,z] _=>o == p&&o' == p'&&!lastMarks [p,p'] [y,z]&&kE S a x&&kE S b y&&kE S c z
  | .asI es,.BoolOp .And xs _=>wX S es xs
  | .tup es,.Tuple xs _ _=>wX S es xs
  | .lst es,.List xs _=>wX S es xs
  | .dct,.Dict [] [] _=>true
  | .ix a b,.Subscript x y _=>!isSlice y&&kE S a x&&kE S b y
  | .call k es,.Call (.Name x _) xs [] _=>wX S es xs&&S.gv[k]? == some true&&amL S k x (!xs.isEmpty)
  | .meth m o es,.Call (.Attribute y n ap) xs [] cp=>n == mkN m&&bO y&&ap.endLine == cp.line&&decide (xs.length < 30)&&kE S o y&&wX S es xs
  | .comp fl gv ci cc e,.ListComp elt [⟨.Name x _,iter,ifs,a⟩] scope _=>a == 0&&ae2 S [x] scope fl gv&&!isSet iter&&kI S false ci iter&&kC (S.cmp [x] fl gv) cc ifs&&kE (S.cmp [x] fl gv) e elt
  | .fld k o,.Attribute y n _=>aoT S k n&&bO y&&kE S o y
  | .rP k o es,.Call (.Attribute y n ap) xs [] cp=>axY S k n&&S.calm&&bO y&&ap.endLine == cp.line&&decide (xs.length < 30)&&kE S o y&&wX S es xs
  | .dix a b,.Subscript x y _=>!isSlice y&&kE S a x&&kE S b y
  | .din neg a b,.Compare x [o'] [y] _=>o' == (if neg then CmpOp.NotIn else CmpOp.In)&&!behindInMarks o' y&&kE S a x&&kE S b y
  | .dgt o e f,.Call (.Attribute y n ap) [x,z] [] cp=>n == ("get" : Str)&&bO y&&ap.endLine == cp.line&&!isStar x&&!isStar z&&kE S o y&&kE S e x&&kE S f z
  | .asK,.Dict [] [] _=>true
  | .dm m o e es,.Call (.Attribute y n ap) (x :: xs) [] cp=>n == dmN m&&bO y&&ap.endLine == cp.line&&decide ((x :: xs).length < 30)&&kE S o y&&!isStar x&&kE S e x&&wX S es xs
  | .sortI k o,.Call (.Name x _) [w] [] _=>S.calm&&S.gv[k]? == some true&&aoU S k x "sorted" && (match oK w with
    | some (y,n,l)=>l&&n == ("items" : Str)&&bO y&&kE S o y
    | none=>false)
  | .axV k o,.Call (.Name x _) [w] [] _=>S.calm&&S.gv[k]? == some true&&aoU S k x "sum" && (match oK w with
    | some (y,n,l)=>l&&n == ("values" : Str)&&bO y&&kE S o y
    | none=>false)
  | .amJ k o,.Call (.Name x _) [w] [] _=>S.calm&&S.gv[k]? == some true&&axZ S k x "list" && (match oK w with
    | some (y,n,l)=>l&&n == ("values" : Str)&&bO y&&kE S o y
    | none=>false)
  | .deq neg a b,.Compare x [o'] [y] _=>o' == (if neg then CmpOp.NotEq else CmpOp.Eq)&&kE S a x&&kE S b y
  | _,_=>false
noncomputable def wX (S:SI):CEs->List Expr->Bool
  | .nil,[]=>true
  | .cons e r,x :: xs=>!isStar x&&kE S e x&&wX S r xs
  | _,_=>false
noncomputable def kT (S:SI):CT->Expr->Bool
  | .cmp o a b,.Compare x [o'] [y] _=>o == o'&&!behindInMarks o' y&&kE S a x&&kE S b y
  | .chain o o' a b c,.Compare x [p,p'] [y,z] _=>o == p&&o' == p'&&!lastMarks [p,p'] [y,z]&&kE S a x&&kE S b y&&kE S c z
  | .not t,.UnaryOp .Not e _=>kT S t e
  | .and ts,.BoolOp .And xs _=>kTs S ts xs
  | .or ts,.BoolOp .Or xs _=>kTs S ts xs
  | .din neg a b,.Compare x [o'] [y] _=>o' == (if neg then CmpOp.NotIn else CmpOp.In)&&!behindInMarks o' y&&kE S a x&&kE S b y
  | .deq neg a b,.Compare x [o'] [y] _=>o' == (if neg then CmpOp.NotEq else CmpOp.Eq)&&kE S a x&&kE S b y
  | .ntu a b,.Compare x [o'] [y] _=>o' == CmpOp.NotIn&&!behindInMarks o' y&&kE S a x&&kE S b y
  | .val e,x=>plainT x&&kE S e x
  | _,_=>false
noncomputable def kTs (S:SI):CTs->List Expr->Bool
  | .nil,[]=>true
  | .cons e r,x :: xs=>kT S e x&&kTs S r xs
  | _,_=>false
noncomputable def kO (S:SI):CO->Option Expr->Bool
  | .none,none=>true
  | .some e,some x=>kE S e x
  | _,_=>false
noncomputable def kI (S:SI) (tt:Bool):CI->Expr->Bool
  | .any e,x=>kE S e x
  | .akN e,.Call (.Name r _) [y] [] _=>r == ("range" : Str)&&a5W S&&!isStar y&&kE S e y
  | .items e,x=>tt&&(match oK x with
    | some (y,n,l)=>l&&n == ("items" : Str)&&bO y&&kE S e y
    | none=>false)
  | .keys e,x=>S.calm&&kE S e x
  | _,_=>false
noncomputable def kC (S:SI):CC->List Expr->Bool
  | .none,[]=>true
  | .some t,[x]=>kT S t x
  | _,_=>false
end
end L4
namespace L4
open PySem PySem.Spec PyProof.Rows L2
variable {e:Expr}{env:Env}
theorem bH {es:List Expr} (h:isStar e=false):starEach (e :: es) env=(false,eval e env) :: starEach es env:=by
  cases e <;> first | rfl | (exact absurd (show true=false from h) (by decide))
theorem tL {S:SI} {env:Env} {pos:Pos}:∀ {cs:CEs} {xs:List Expr},wX S cs xs=true->(backTo pos (starEach xs env)).any (·.1)=false
  | .nil,[],_=>rfl
  | .nil,_ :: _,h=>absurd (show false=true from h) (by decide)
  | .cons _ _,[],h=>absurd (show false=true from h) (by decide)
  | .cons e r,x :: xs,h=>by
    have h':(!isStar x&&kE S e x&&wX S r xs)=true:=h;simp only [ak,bx] at h';rw [bH h'.1.1];show (false || (backTo pos (starEach xs env)).any (·.1))=false;rw [tL h'.2];rfl
theorem fG {o:Expr} {n:Str} (h:bO o=true):attributeBase o n env (eval o env)=eval o env:=by
  cases o with
  | Call f args kws pos =>
    cases f with
    | Name id p =>
      cases args with
      | nil =>
        cases kws with
        | nil =>
          have h':(id != ("super" : Str))=true:=h;unfold attributeBase;simp only [h',Bool.true_or,if_true]
        | cons _ _=>rfl
      | cons _ _=>cases kws <;> rfl
    | _=>rfl
  | _=>rfl
noncomputable abbrev BMv:List Value:=[.type "ValueError",.type "Exception",.type "BaseException",.type "object"]
noncomputable def aJZ (X:Cx) (cm:Bool) (x:Str):GT->Prop
  | .con d=>∃ u v,X.mg x=some u/\RelV v u/\∀ H,RD X.K H d v
  | .cls a=>X.mg x=some (.ref a)/\jf X.K a BMv "ValueError.__new__" = true
  | .fn sp n qt=>(qt=true∨cm=true)->∃ k f fd ps,cM qt X.prog X.w X.K X.mg X.base (oJ X.prog X.w) k f fd ps (dB X.K sp)/\jH qt k X.A/\X.mg x=some (.ref f)/\jy X.K (.ref f)=true/\Binds X.K fd ps []
  | .bf b=>X.mg x=none/\bootBuiltins x=some (amK b)
  | .bt n=>X.mg x=none/\bootBuiltins x=some (.type n)
  | .kl C sp dd=>cm=true->∃ k f fd ps ds dvs,Mk X.K C f/\cM false X.prog X.w X.K X.mg X.base (oJ X.prog X.w) k f fd ps (dB X.K sp)/\jH false (k+1) X.A/\X.mg x=some (.ref C)/\Binds X.K fd ps ds/\Vals dvs ds/\∀ H,cN X.K H dd dvs
  | .me C m sp dd=>cm=true->∃ k f fd ps ds dvs,Cls X.K C/\Meth X.K C m f/\cM false X.prog X.w X.K X.mg X.base (oJ X.prog X.w) k f fd ps (dB X.K sp)/\jH false k X.A/\Binds X.K fd ps ds/\Vals dvs ds/\∀ H,cN X.K H dd dvs
  | .fl C f=>Cls X.K C/\oR X.K C f
structure oW (X:Cx) (S:SI) (ex:aO->aZ):Prop where
  N:X.N=S.N
  nd:X.N.Nodup
  vis:∀ (i:Nat) (x:Str),S.N[i]?=some x->S.fl[i]?=some true->Vis X.env.scope x/\(x == ("__debug__" : Str))=false/\(x == ("__classdict__" : Str))=false
  ce:∀ (i:Nat) (x:Str),S.N[i]?=some x->S.ce[i]?=some true->X.env.kindOf x=some .cell∨X.env.kindOf x=some .free
  gm:∀ (k:Nat) (x:Str) (g:GT),S.gl[k]?=some (x,g)->(S.gv[k]?=some true->Gl X x)/\(x == ("__debug__" : Str))=false/\x ≠ "__name__" /\ aJZ X S.calm x g
  hu:X.A.units+64 < cLine
  cm:S.calm=true->X.calm=true
  cat:Cat X ex
theorem oW.gl {X:Cx} {S:SI} {ex:aO->aZ} (Q:oW X S ex) (k:Nat) (x:Str) (g:GT) (h:S.gl[k]?=some (x,g)) (hv:S.gv[k]?=some true):Gl X x/\(x == ("__debug__" : Str))=false/\x ≠ "__name__" /\ aJZ X S.calm x g :=
  ⟨(Q.gm k x g h).1 hv,(Q.gm k x g h).2⟩
section
variable {X:Cx} {S:SI} {ex:aO->aZ}
theorem asN:cR X e akO:=fun _ _ _ _ _ _ ⟨_,_,_,_,_,z,_⟩=>z.elim
theorem ay0 {o:Operator}:aa1 X (binaryOp o) (aAF o):=by
  have no:∀ {f:Value->Value->Sem Value},aa1 X f (fun _ _ _ _=>False):=fun {f}=>⟨fun _ _ _ _=>False,fun _ _ _ _ _ _ _ _ _ _ _ _ h=>h.elim,fun _ _ _ _ _ _ _ _ _ _ _ h _=>h.elim⟩;exact match o with
  | .Add=>aIM
  | .Sub=>aIH
  | .Mult=>aII
  | .FloorDiv=>aCH
  | .Mod=>aIJ
  | .Pow=>aIK
  | .MatMult=>no
  | .Div=>no
  | .LShift=>no
  | .RShift=>no
  | .BitOr=>no
  | .BitXor=>no
  | .BitAnd=>no
theorem a2E {o:CmpOp} (hu:X.A.units+64 < cLine):rA X (compareOp o) (aaY o):=by
  exact match o with
  | .Eq=>aNA hu
  | .NotEq=>aNB hu
  | .Lt=>aMN
  | .LtE=>aMQ
  | .Gt=>aMO
  | .GtE=>aMP
  | .Is=>aMR
  | .IsNot=>aCI
  | .In=>aND hu
  | .NotIn=>awO hu
theorem aK0 {n:String}:cU X (.type n) (aEC n):=by
  unfold aEC;split
  . rename_i h;subst h;exact aIY
  . split
    . rename_i h;subst h;exact aCX
    . split
      . rename_i h;subst h;exact aJO
      . split
        . rename_i h;subst h;exact axF
        . exact fun _ _ _ _ _ _ _ _ _ _ _ _ _ _ h _=>h.elim
theorem asO {qt:Bool} {k:Nat} {f:Addr} {fd:FuncData} {ps:List Str} {sp:uX} {x:Str} {p pos:Pos} (F:cM qt X.prog X.w X.K X.mg X.base (oJ X.prog X.w) k f fd ps (dB X.K sp)) (hr:jH qt k X.A) (hg:Gl X x) (hm:X.mg x=some (.ref f)) (hk:jy X.K (.ref f)=true) (hb:Binds X.K fd ps []) (hx:Cat X ex)
    (hdb:(x == ("__debug__" : Str))=false):cR X (.Call (.Name x p) [] [] pos) (aV sp ex aD):=by
  intro pins s σ H Q I h;obtain ⟨ρ,G,R,sr,g,q,kk⟩:=h;refine wpAny_Call_Name_kw (rT I hg hm ?_ hdb);refine zy I.kIn hk ?_;exact alU (E:=a2Z X.K (ex ρ)) F hr hb (fun e s' c=>hx.adL pins σ H s ρ e s' I sr c) I .nil (Q:=fun v H'=>∃ d G',RD X.K H' d v/\HR X.K H' G'/\R d G') ⟨[],G,R,ex ρ,.nil,g,q,fun v H' d G' r2 g2 q2=>⟨d,G',r2,g2,q2⟩,fun C H' G' g' q'=>⟨C,G',rfl,g',q'⟩⟩ fun v H' t2 ⟨d,G',r2,g2,q2⟩=>kk v H' d G' t2 r2 g2 q2
theorem a3X {xs:List Expr} {cs:CEs} {cp:Pos} (h:wX S cs xs=true) (hl:xs.length < 30):((backTo cp (starEach xs X.env)).all (fun x=>!x.1)&&(backToKw cp (keywordEach [] X.env)).all (fun x=>x.1.isSome)
      && decide (xs.length+([]:List Keyword).length+(if ([]:List Keyword).isEmpty then 0 else 1) < 30))=true:=by
  have h1:(backTo cp (starEach xs X.env)).all (fun x=>!x.1)=true:=by
    rw [iu];intro y hy;have:=tL (env:=X.env) (pos:=cp) h;rw [List.any_eq_false] at this;have:=this y hy;simpa using this
  have h2:(decide (xs.length+([]:List Keyword).length+(if ([]:List Keyword).isEmpty then 0 else 1) < 30))=true:=decide_eq_true (by simpa using hl);rw [h1,h2];rfl
end
end L4
namespace L4
open PySem PySem.Spec PyProof.Rows L2
variable {j:Nat}{pos p ap cp:Pos}{e o:Expr}{x:Str}{es:List Expr}{m:MK}{to:cL}{cs:CEs}{xs:List Str}{env:Env}{scope:Scope}{neg:Bool}
section
variable {X:Cx} {S:SI} {ex:aO->aZ}
theorem aEM {d:D} {c:Const} (h:aAG d c=true):cR X (.Constant c j pos) (bC d):=by
  cases d <;> cases c <;> first | exact absurd (show false=true from h) (by decide) | skip
  . exact aI3
  . have:=beq_iff_eq.mp h;subst this;exact aMJ
  . have:=beq_iff_eq.mp h;subst this;exact aI2
  . have:=beq_iff_eq.mp h;subst this;exact aI4
theorem aEN (h:plainT e=true):∀ whole,isTrue e X.env whole=(do let v ← whole;standAt e.pos;holding [v] (truthy v)):=by
  cases e with
  | UnaryOp op x p=>cases op <;> first | exact absurd (show false=true from h) (by decide) | (intro _;rfl)
  | BoolOp _ _ _=>exact absurd (show false=true from h) (by decide)
  | IfExp _ _ _ _=>exact absurd (show false=true from h) (by decide)
  | Compare _ _ _ _=>exact absurd (show false=true from h) (by decide)
  | _=>intro _;rfl
theorem aAH (h:isSlice e=false):aeN e:=by
  cases e with
  | Slice _ _ _ _=>exact absurd (show true=false from h) (by decide)
  | _=>intro _ _;rfl
theorem aK1 (Q:oW X S ex) {k:Nat} {b:BF} (hk:S.gl[k]?=some (x,.bf b)) (hv:S.gv[k]?=some true) (hc:(S.calm || akP b)=true) {t:yH} (ha:PA3 X (e :: es) t) (he:isStar e=false) (hp:(backTo pos (starEach es X.env)).any (·.1)=false):cR X (.Call (.Name x p) (e :: es) [] pos) (lX (aJX X.K b) t):=by
  obtain ⟨h1,h2,h3,h4⟩:=Q.gl _ _ _ hk hv
  have cm:akP b=false->X.calm=true:=fun z=>by
    rw [z,Bool.or_false] at hc;exact Q.cm hc
  cases b with
  | len=>exact v9 aIX h1 h4.1 h4.2 ha h3 h2 (bH he) hp
  | isi=>exact v9 aeY h1 h4.1 h4.2 ha h3 h2 (bH he) hp
  | min=>exact v9 (aDM (cm rfl)) h1 h4.1 h4.2 ha h3 h2 (bH he) hp
  | max=>exact v9 (aDL (cm rfl)) h1 h4.1 h4.2 ha h3 h2 (bH he) hp
  | sum=>exact v9 (aJA (cm rfl)) h1 h4.1 h4.2 ha h3 h2 (bH he) hp
  | ae1=>exact v9 ax8 h1 h4.1 h4.2 ha h3 h2 (bH he) hp
  | asH=>exact v9 aDY h1 h4.1 h4.2 ha h3 h2 (bH he) hp
  | ai0=>exact v9 (axE (cm rfl)) h1 h4.1 h4.2 ha h3 h2 (bH he) hp
  | ai1=>exact ah0 (axH (cm rfl)) h1 h4.1 h4.2 ha h3 h2 (bH he) hp
theorem ay1 (ho:cR X o to) (hb:bO o=true) (hl:(ap.endLine == cp.line)=true):cR X (.Call (.Attribute o (mkN m) ap) [] [] cp) (aD1 (mkT m) (mkR m) to):=by
  cases m with
  | append=>exact aqW PySem.F.plainAttrs_list PySem.F.slot_list_append PySem.F.type_list_append ah3 ho (fG hb) hl
  | pop=>exact aqW PySem.F.plainAttrs_list PySem.F.slot_list_pop PySem.F.type_list_pop aA8 ho (fG hb) hl
  | a7C=>exact aqW PySem.F.plainAttrs_list PySem.F.slot_list_index PySem.F.type_list_index ahS ho (fG hb) hl
theorem asQ {t:yH} (ho:cR X o to) (ha:PA3 X (e :: es) t) (hb:bO o=true) (hl:(ap.endLine == cp.line)=true) (hk:wX S cs (e :: es)=true) (hn:(e :: es).length < 30) :
    cR X (.Call (.Attribute o (mkN m) ap) (e :: es) [] cp) (tM3 (mkT m) (mkR m) to t):=by
  have he:isStar e=false:=by
    cases cs with
    | nil=>exact absurd (show false=true from hk) (by decide)
    | cons c r =>
      have h':(!isStar e&&kE S c e&&wX S r es)=true:=hk;simp only [ak,bx] at h';exact h'.1.1
  have hp:(backTo cp (starEach es X.env)).any (·.1)=false:=by
    have:=tL (env:=X.env) (pos:=cp) hk;rw [bH he] at this;have z:(false || (backTo cp (starEach es X.env)).any (·.1))=false:=this;simpa using z
  cases m with
  | append=>exact aD2 PySem.F.plainAttrs_list PySem.F.slot_list_append PySem.F.type_list_append ah3 ho ha (fG hb) (a3X hk hn) hl (bH he) hp
  | pop=>exact aD2 PySem.F.plainAttrs_list PySem.F.slot_list_pop PySem.F.type_list_pop aA8 ho ha (fG hb) (a3X hk hn) hl (bH he) hp
  | a7C=>exact aD2 PySem.F.plainAttrs_list PySem.F.slot_list_index PySem.F.type_list_index ahS ho ha (fG hb) (a3X hk hn) hl (bH he) hp
theorem aK2 {m:DM} {t:yH} (hu:X.A.units+64 < cLine) (ho:cR X o to) (ha:PA3 X (e :: es) t) (hb:bO o=true) (hl:(ap.endLine == cp.line)=true) (hk:wX S cs (e :: es)=true) (hn:(e :: es).length < 30) :
    cR X (.Call (.Attribute o (dmN m) ap) (e :: es) [] cp) (akD (dmR m) to t):=by
  have he:isStar e=false:=by
    cases cs with
    | nil=>exact absurd (show false=true from hk) (by decide)
    | cons c r =>
      have h':(!isStar e&&kE S c e&&wX S r es)=true:=hk;simp only [ak,bx] at h';exact h'.1.1
  have hp:(backTo cp (starEach es X.env)).any (·.1)=false:=by
    have:=tL (env:=X.env) (pos:=cp) hk;rw [bH he] at this;have z:(false || (backTo cp (starEach es X.env)).any (·.1))=false:=this;simpa using z
  cases m with
  | sdf=>exact aJI PySem.F.slot_dict_setdefault PySem.F.type_dict_setdefault (aJJ hu) ho ha (fG hb) (a3X hk hn) hl (bH he) hp
  | pop=>exact aJI PySem.F.slot_dict_pop PySem.F.type_dict_pop (aDX hu) ho ha (fG hb) (a3X hk hn) hl (bH he) hp
local macro_rules | `(tactic| walk_at "off")=>`(tactic| exact absurd (show false=true from by assumption) (by decide))
theorem aEO (Q:oW X S ex) {k:Nat} (h:kE S (.glo k) (.Name x p)=true):cR X (.Name x p) (aED S.gl k):=by
  have h':(S.gv[k]? == some true&&asM S k x)=true:=h;rw [ak] at h';obtain ⟨hv,h⟩:=h';have hv:=beq_iff_eq.mp hv;unfold asM at h;unfold aED;split at h
  . rename_i y d hk;have:=beq_iff_eq.mp h;subst this;obtain ⟨h1,h2,h3,u,v,h4,h5,h6⟩:=Q.gl _ _ _ hk hv;exact aqE h1 h4 h5 h6 h2
  . rename_i y d hk;have:=beq_iff_eq.mp h;subst this;obtain ⟨h1,h2,h3,h4⟩:=Q.gl _ _ _ hk hv;exact aqE h1 h4.1 (v := .ref d) rfl (fun _ => .ref _) h2
  . rename_i y d hk;have:=beq_iff_eq.mp h;subst this;obtain ⟨h1,h2,h3,h4⟩:=Q.gl _ _ _ hk hv;exact aCD h1 h4.1 h4.2 h3 h2
  . exact absurd h (by decide)
theorem ay2 (Q:oW X S ex) {k:Nat} {es:CEs} {xs:List Expr} (ha:PA3 X xs (mA S.gl X.K ex es)) (hk:wX S es xs=true) (hv:S.gv[k]?=some true) (h:amL S k x (!xs.isEmpty)=true):cR X (.Call (.Name x p) xs [] pos) (aEE S.gl X.K ex k (mA S.gl X.K ex es)):=by
  unfold amL at h;unfold aEE
  have one:∀ {e:Expr} {r:List Expr},xs=e :: r->isStar e=false/\(backTo pos (starEach r X.env)).any (·.1)=false:=fun {e r} z=>by
    subst z;cases es with
    | nil=>exact absurd (show false=true from hk) (by decide)
    | cons c cr =>
      have h':(!isStar e&&kE S c e&&wX S cr r)=true:=hk;simp only [ak,bx] at h';exact ⟨h'.1.1,tL h'.2⟩
  split at h
  . rename_i y sp n qt hg;rw [ak] at h;obtain ⟨h,hc⟩:=h;have:=beq_iff_eq.mp h;subst this;obtain ⟨h1,h2,h3,h4⟩:=Q.gl _ _ _ hg hv;obtain ⟨j,f,fd,ps,F,hr,hm,hkp,hb⟩:=h4 (zp _ _ |>.mp hc);cases xs with
    | nil =>
      cases es with
      | nil=>exact asO F hr h1 hm hkp hb Q.cat h2
      | cons _ _=>exact absurd (show false=true from hk) (by decide)
    | cons e r=>exact awJ F hr h1 hm hkp hb Q.cat ha h2 (bH (one rfl).1) (one rfl).2
  . rename_i y a hg;have:=beq_iff_eq.mp h;subst this;obtain ⟨h1,h2,h3,h4,h5⟩:=Q.gl _ _ _ hg hv;cases xs with
    | nil =>
      cases es with
      | nil=>exact aDP PySem.F.excBase_ValueError (by decide) PySem.F.excBase_ValueError h1 h4 h5 h2
      | cons _ _=>exact absurd (show false=true from hk) (by decide)
    | cons e r=>exact aJE PySem.F.excBase_ValueError (by decide) PySem.F.excBase_ValueError h1 h4 h5 ha h2 (bH (one rfl).1) (one rfl).2
  . rename_i y b hg;rw [ak,ak] at h;obtain ⟨⟨h,hc⟩,hcm⟩:=h;have:=beq_iff_eq.mp h;subst this;cases xs with
    | nil=>exact absurd (show false=true from hc) (by decide)
    | cons e r=>exact aK1 Q hg hv hcm ha (one rfl).1 (one rfl).2
  . rename_i y n hg;rw [ak] at h;obtain ⟨h,hc⟩:=h;have:=beq_iff_eq.mp h;subst this;obtain ⟨h1,h2,h3,h4⟩:=Q.gl _ _ _ hg hv;cases xs with
    | nil=>exact absurd (show false=true from hc) (by decide)
    | cons e r=>exact ah0 aK0 h1 h4.1 h4.2 ha h3 h2 (bH (one rfl).1) (one rfl).2
  . rename_i y C sp dd hg;rw [ak] at h;obtain ⟨h,hc⟩:=h;have:=beq_iff_eq.mp h;subst this;obtain ⟨h1,h2,h3,h4⟩:=Q.gl _ _ _ hg hv;obtain ⟨kk,f,fd,ps,ds,dvs,q1,q2,q3,q4,q5,q6,q7⟩:=h4 hc;cases xs with
    | nil =>
      cases es with
      | nil=>exact arK q1 q2 q3 h1 q4 q5 q6 q7 Q.cat h2
      | cons _ _=>exact absurd (show false=true from hk) (by decide)
    | cons e r=>exact ax2 q1 q2 q3 h1 q4 q5 q6 q7 Q.cat ha h2 (bH (one rfl).1) (one rfl).2
  . exact absurd h (by decide)
theorem tM {names:List (Str×NameKind)} {y:Str} {k:NameKind} (h:names.lookup y=some k) :
    (names.map fun (n,k)=>if (k == .free&&env.scope.kind == .function&&env.kindOf n == some .cell) then (n,.cell) else (n,k)).lookup y=some k ∨
    (k = .free/\(names.map fun (n,k)=>if (k == .free&&env.scope.kind == .function&&env.kindOf n == some .cell) then (n,.cell) else (n,k)).lookup y=some .cell):=by
  induction names with
  | nil=>simp at h
  | cons p r ih =>
    obtain ⟨n,kd⟩:=p;rw [ni] at h;show qe y ((if (kd == .free&&env.scope.kind == .function&&env.kindOf n == some .cell)=true then (n,NameKind.cell) else (n,kd)) :: _)=some k∨(k = .free/\qe y ((if (kd == .free&&env.scope.kind == .function&&env.kindOf n == some .cell)=true then (n,NameKind.cell) else (n,kd)) :: _)=some .cell);cases hx:y == n with
    | true =>
      rw [hx] at h;have hkd:kd=k:=by simpa using h
      subst hkd;by_cases hc:(kd == .free&&env.scope.kind == .function&&env.kindOf n == some .cell)=true
      . rw [if_pos hc,ni,hx];refine .inr ⟨?_,rfl⟩;simp only [ak,beq_iff_eq] at hc;exact hc.1.1
      . rw [if_neg hc,ni,hx];exact .inl rfl
    | false =>
      rw [hx] at h;have z:=ih h;by_cases hc:(kd == .free&&env.scope.kind == .function&&env.kindOf n == some .cell)=true
      . rw [if_pos hc,ni,hx];exact z
      . rw [if_neg hc,ni,hx];exact z
theorem ae3:∀ {xs:List Str},afF xs=true->xs.Nodup
  | [],_=>yc
  | x :: r,h=>by
    have h':(!r.contains x&&afF r)=true:=h;rw [ak] at h';exact jg.mpr ⟨by simpa using h'.1,ae3 h'.2⟩
theorem a8E {fl gv:List Bool} (h:ae2 S xs scope fl gv=true) :
    scope.kind = .function/\(∀ y∈scope.names,y.2 ≠ .cell/\(y.2 = .local->scope.names.lookup y.1=some .local)/\(y.2 = .free->aEL S y.1=true)) /\
    (∀ x∈xs,scope.names.lookup x=some .local/\x ∉ S.N/\(x == ("__debug__" : Str))=false/\(x == ("__classdict__" : Str))=false)/\xs.Nodup/\(∀ y∈S.N,scope.names.lookup y≠some .local) /\
    (∀ (i:Nat) (y:Str),S.N[i]?=some y->fl[i]?=some true->S.fl[i]?=some true/\scope.names.lookup y=some .free) /\
    ∀ (k:Nat) (y:Str) (g:GT),S.gl[k]?=some (y,g)->gv[k]?=some true->scope.names.lookup y=some .globalImplicit:=by
  unfold ae2 at h;simp only [ak] at h;obtain ⟨⟨⟨⟨⟨⟨h1,h2⟩,h3⟩,h4⟩,h5⟩,h8⟩,h9⟩:=h;refine ⟨beq_iff_eq.mp h1,fun y hy=>?_,fun x hx=>?_,ae3 h4,fun y hy=>?_,fun i y e1 e2=>?_,fun k y g e1 e2=>?_⟩
  . have z:=iu.mp h2 y hy;simp only [ak,bne_iff_ne,ne_eq,zp,beq_iff_eq] at z;obtain ⟨⟨z1,z2⟩,z3⟩:=z;exact ⟨z1,fun e=>z2.resolve_left fun n=>n e,fun e=>z3.resolve_left fun n=>n e⟩
  . have z:=iu.mp h3 x hx;simp only [ak] at z;obtain ⟨⟨⟨z1,z2⟩,z3⟩,z4⟩:=z;exact ⟨beq_iff_eq.mp z1,by simpa using z2,by simpa using z3,by simpa using z4⟩
  . have z:=iu.mp h5 y hy;simpa using z
  . have z:=iu.mp h8 i (rm.mpr (fj.mp e1).1);rw [e2,e1] at z;simpa using z
  . have z:=iu.mp h9 k (rm.mpr (fj.mp e1).1);rw [e2,e1] at z;simpa using z
theorem a7D (Q:oW X S ex) {fl gv:List Bool} (h:ae2 S xs scope fl gv=true):a3T X xs scope:=by
  obtain ⟨h1,h2,h3,h4,h5,h8,h9⟩:=a8E h;refine ⟨h1,fun y hy=>(h2 y hy).1,fun y hy=>(h2 y hy).2.1,fun x hx=>(h3 x hx).1,fun y hy e=>?_,fun x hx=>by rw [Q.N];exact (h3 x hx).2.1,h4,by rw [Q.N];exact h5⟩;have z:=(h2 y hy).2.2 e;unfold aEL at z;obtain ⟨i,_,z⟩:=yx.mp z;rw [ak] at z;exact Q.ce i y.1 (beq_iff_eq.mp z.1) (beq_iff_eq.mp z.2)
theorem asR {X:Cx}:Cat X NoX:=⟨fun _ _ _ _ _ _ _ _ _ ⟨_,_,_,_,_,_,_,_,_,_,_,_,z⟩=>by obtain ⟨_,_,_,_,z⟩:=z;exact z.elim⟩
theorem ae4 {α:Type} {xs ys:List α} {i:Nat} {y:α} (h:(xs++ys)[i]?=some y):(i < xs.length/\y∈xs)∨∃ j,i=xs.length+j/\ys[j]?=some y:=by
  by_cases c:i < xs.length
  . rw [ug c] at h;exact .inl ⟨c,je h⟩
  . rw [ql (by omega)] at h;exact .inr ⟨i - xs.length,by omega,h⟩
theorem amM {α β:Type} {xs:List α} {f:α->β} {ys:List β}:(xs.map f++ys)[xs.length+j]?=ys[j]?:=by
  rw [ql (by simp)];congr 1;simp
theorem oW.cmp (Q:oW X S ex) {fl gv:List Bool} (h:ae2 S xs scope fl gv=true) (C:Addr) (s:Shared) (H:Hp) (fp:List Addr) (pins:List (Addr×Obj)):oW (vZ X xs scope C s H fp pins) (S.cmp xs fl gv) NoX:=by
  obtain ⟨h1,h2,h3,h4,h5,h8,h9⟩:=a8E h;refine ⟨by show xs++X.N=xs++S.N;rw [Q.N],ar6 (N:=X.N) (a7D Q h) Q.nd,fun i y e1 e2=>?_,fun i y e1 e2=>?_,fun k y g e1=>?_,Q.hu,Q.cm,asR⟩
  . rcases ae4 e1 with ⟨_,m⟩ | ⟨j,rfl,e1'⟩
    . obtain ⟨a1,a2,a3,a4⟩:=h3 y m;exact ⟨.inl (lookup_relabel_local a1),a3,a4⟩
    . have e2':fl[j]?=some true:=amM.symm.trans e2;obtain ⟨a1,a2⟩:=h8 j y e1' e2';obtain ⟨_,b2,b3⟩:=Q.vis j y e1' a1;refine ⟨?_,b2,b3⟩;rcases tM (env:=X.env) a2 with z | ⟨_,z⟩
      . exact .inr (.inr z)
      . exact .inr (.inl z)
  . rcases ae4 e1 with ⟨c,m⟩ | ⟨j,rfl,e1'⟩
    . have e2':(xs.map (fun _=>false)++fl)[i]?=some true:=e2;rw [ug (by simpa using c)] at e2';simp at e2'
    . have e2':fl[j]?=some true:=amM.symm.trans e2;obtain ⟨a1,a2⟩:=h8 j y e1' e2';rcases tM (env:=X.env) a2 with z | ⟨_,z⟩
      . exact .inr z
      . exact .inl z
  . obtain ⟨b1,b2,b3,b4⟩:=Q.gm k y g e1;refine ⟨fun e2=>?_,b2,b3,?_⟩
    . rcases tM (env:=X.env) (h9 k y g e1 e2) with z | ⟨z,_⟩
      . exact z
      . cases z
    . cases g <;> exact b4
theorem ai2 (Q:oW X S ex) (h:a5W S=true):Gl X "range" /\ X.mg "range" = none:=by
  unfold a5W at h;obtain ⟨k,_,h⟩:=yx.mp h;rw [ak] at h;obtain ⟨hv,h⟩:=h;split at h
  . rename_i y n e;rw [ak] at h;have:=beq_iff_eq.mp h.1;subst this;obtain ⟨g1,g2,g3,g4⟩:=Q.gl _ _ _ e (beq_iff_eq.mp hv);exact ⟨g1,g4.1⟩
  . exact absurd h (by decide)
theorem amN {k:Nat} (h:aoT S k x=true):∃ y C,S.gl[k]?=some (y,.fl C x):=by
  unfold aoT at h;split at h
  . rename_i y C f e;have:=beq_iff_eq.mp h;subst this;exact ⟨y,C,e⟩
  . exact absurd h (by decide)
theorem ay3 {k:Nat} (h:axY S k x=true):∃ y C sp dd,S.gl[k]?=some (y,.me C x sp dd):=by
  unfold axY at h;split at h
  . rename_i y C m sp dd e;have:=beq_iff_eq.mp h;subst this;exact ⟨y,C,sp,dd,e⟩
  . exact absurd h (by decide)
theorem asS {o:CmpOp} (hu:X.A.units+64 < cLine) (h:(o == (if neg then CmpOp.NotIn else CmpOp.In))=true):rA X (compareOp o) (aEH neg):=by
  have:=beq_iff_eq.mp h;subst this;cases neg with
  | true=>exact aDR hu
  | false=>exact aJH hu
theorem ay4 {m:Str} {args:List Expr} (hb:attributeBase o m env (eval o env)=eval o env) (hf:((backTo cp (starEach args env)).all (fun x=>!x.1)&&(backToKw cp (keywordEach [] env)).all (fun x=>x.1.isSome)
      && decide (args.length+([]:List Keyword).length+(if ([]:List Keyword).isEmpty then 0 else 1) < 30))=true) (hl:(ap.endLine == cp.line)=true):∃ pl:Sem Bool,eval (.Call (.Attribute o m ap) args [] cp) env=(do
      let ov ← eval o env
      standAt ap.atName
      let (f,first) ← holding [ov] (getMethod ov m pl)
      callWith cp f first (backTo cp (starEach args env)) (backToKw cp (keywordEach [] env))):=by
  rw [arm_eval_Call,hb];have hform:methodCallForm (args.length+([]:List Keyword).length) (backTo cp (starEach args env)) (backToKw cp (keywordEach [] env))=true:=hf;have hpos:methodCallPos true o env ap cp=pure cp:=by unfold methodCallPos;simp [hl]
  refine ⟨?_,?_⟩
  rotate_left
  . unfold methodCall;rw [hform];simp only [hpos,pure_bind];rfl
theorem amO (Q:oW X S ex) {k:Nat} {nm:String} (h:aoU S k x nm=true) (hv:S.gv[k]?=some true):Gl X x/\X.mg x=none/\bootBuiltins x=some (.builtin nm)/\x ≠ "__name__" /\ (x == ("__debug__" : Str))=false:=by
  unfold aoU at h;split at h
  . rename_i y b e;rw [ak] at h;have e1:=beq_iff_eq.mp h.1;have e2:=beq_iff_eq.mp h.2;subst e1;obtain ⟨g1,g2,g3,g4⟩:=Q.gl _ _ _ e hv;exact ⟨g1,g4.1,by rw [← e2];exact g4.2,g3,g2⟩
  . exact absurd h (by decide)
theorem ay5 (Q:oW X S ex) {k:Nat} {nm:String} (h:axZ S k x nm=true) (hv:S.gv[k]?=some true):Gl X x/\X.mg x=none/\bootBuiltins x=some (.type nm)/\x ≠ "__name__" /\ (x == ("__debug__" : Str))=false:=by
  unfold axZ at h;split at h
  . rename_i y b e;rw [ak] at h;have e1:=beq_iff_eq.mp h.1;have e2:=beq_iff_eq.mp h.2;subst e1;obtain ⟨g1,g2,g3,g4⟩:=Q.gl _ _ _ e hv;exact ⟨g1,g4.1,by rw [← e2];exact g4.2,g3,g2⟩
  . exact absurd h (by decide)
theorem wY {w y:Expr} {n:Str} {l:Bool} (h:oK w=some (y,n,l)):∃ ap cp,w = .Call (.Attribute y n ap) [] [] cp/\l=(ap.endLine == cp.line):=by
  unfold oK at h;split at h
  . cases h;exact ⟨_,_,rfl,rfl⟩
  . cases h
theorem asT {o:CmpOp} (hu:X.A.units+64 < cLine) (h:(o == (if neg then CmpOp.NotEq else CmpOp.Eq))=true):rA X (compareOp o) (aaS neg):=by
  have:=beq_iff_eq.mp h;subst this;exact aJP hu
theorem asU (h:isSet e=false):∀ x,foldedSetIterable e env x=pure x:=by
  cases e <;> first | (intro _;rfl) | exact absurd (show true=false from h) (by decide)
end
end L4
namespace L4
open PySem PySem.Spec PyProof.Rows L2
theorem aU {P:Prop} (h:false=true):P:=absurd h (by decide)
mutual
theorem jK {X:Cx} {S:SI} {ex:aO->aZ} (Q:oW X S ex):∀ (c:CE) (e:Expr),kE S c e=true->cR X e (mE S.gl X.K ex c)
  | .var i,e,h=>by
    cases e with
    | Name x p =>
      have h':(S.N[i]? == some x&&S.fl[i]? == some true)=true:=h;rw [ak] at h';have e1:=beq_iff_eq.mp h'.1;obtain ⟨v1,v2,v3⟩:=Q.vis i x e1 (beq_iff_eq.mp h'.2);exact aI1 i (by rw [Q.N];exact e1) v1 v2 v3
    | _=>exact aU h
  | .con d,e,h=>by
    cases e with
    | Constant c j p=>exact aEM h
    | _=>exact aU h
  | .glo k,e,h=>by
    cases e with
    | Name x p=>exact aEO Q h
    | _=>exact aU h
  | .neg a,e,h=>by
    cases e with
    | UnaryOp op x p =>
      cases op with
      | USub=>exact aIW (jK Q a x h)
      | _=>exact aU h
    | _=>exact aU h
  | .axT a,e,h=>by
    cases e with
    | UnaryOp op x p =>
      cases op with
      | Not=>exact aIC (jK Q a x h)
      | _=>exact aU h
    | _=>exact aU h
  | .bin o a b,e,h=>by
    cases e with
    | BinOp x o' y p =>
      have h':(o == o'&&kE S a x&&kE S b y)=true:=h;simp only [ak] at h';have:=beq_iff_eq.mp h'.1.1;subst this;exact aMK ay0 (jK Q a x h'.1.2) (jK Q b y h'.2)
    | _=>exact aU h
  | .cmp o a b,e,h=>by
    cases e with
    | Compare x ops ys p =>
      match ops,ys,h with
      | [o'],[y],h =>
        have h':(o == o'&&!behindInMarks o' y&&kE S a x&&kE S b y)=true:=h;simp only [ak,bx] at h';have:=beq_iff_eq.mp h'.1.1.1;subst this;exact aqF (a2E Q.hu) (jK Q a x h'.1.2) (jK Q b y h'.2) h'.1.1.2
      | [],_,h=>exact aU h
      | _ :: _ :: _,_,h=>exact aU h
      | [_],[],h=>exact aU h
      | [_],_ :: _ :: _,h=>exact aU h
    | _=>exact aU h
  | .chain o o' a b c,e,h=>by
    cases e with
    | Compare x ops ys p =>
      match ops,ys,h with
      | [p1,p2],[y,z],h =>
        have h':(o == p1&&o' == p2&&!lastMarks [p1,p2] [y,z]&&kE S a x&&kE S b y&&kE S c z)=true:=h;simp only [ak,bx] at h';have e1:=beq_iff_eq.mp h'.1.1.1.1.1;have e2:=beq_iff_eq.mp h'.1.1.1.1.2;subst e1;subst e2;exact awD (a2E Q.hu) (a2E Q.hu) (jK Q a x h'.1.1.2) (jK Q b y h'.1.2) (jK Q c z h'.2) h'.1.1.1.2
      | [],_,h=>exact aU h
      | [_],_,h=>exact aU h
      | _ :: _ :: _ :: _,_,h=>exact aU h
      | [_,_],[],h=>exact aU h
      | [_,_],[_],h=>exact aU h
      | [_,_],_ :: _ :: _ :: _,h=>exact aU h
    | _=>exact aU h
  | .asI es,e,h=>by
    cases e with
    | BoolOp op xs p =>
      cases op with
      | And=>exact aAI Q es xs p h
      | Or=>exact aU h
    | _=>exact aU h
  | .tup es,e,h=>by
    cases e with
    | Tuple xs j p=>exact aID (okA Q es xs h)
    | _=>exact aU h
  | .lst es,e,h=>by
    cases e with
    | List xs p=>exact aIE (okA Q es xs h)
    | _=>exact aU h
  | .dct,e,h=>by
    cases e with
    | Dict ks vs p =>
      match ks,vs,h with
      | [],[],_=>exact aD3
      | _ :: _,_,h=>exact aU h
      | [],_ :: _,h=>exact aU h
    | _=>exact aU h
  | .ix a b,e,h=>by
    cases e with
    | Subscript x y p =>
      have h':(!isSlice y&&kE S a x&&kE S b y)=true:=h;simp only [ak,bx] at h';exact aMS (jK Q a x h'.1.2) (jK Q b y h'.2) (aAH h'.1.1)
    | _=>exact aU h
  | .call k es,e,h=>by
    cases e with
    | Call f xs kws p =>
      cases f with
      | Name x q =>
        cases kws with
        | nil =>
          have h':(wX S es xs&&S.gv[k]? == some true&&amL S k x (!xs.isEmpty))=true:=h;simp only [ak] at h';exact ay2 Q (okA Q es xs h'.1.1) h'.1.1 (beq_iff_eq.mp h'.1.2) h'.2
        | cons _ _=>exact aU h
      | _=>exact aU h
    | _=>exact aU h
  | .meth m o .nil,e,h=>by
    cases e with
    | Call f xs kws p =>
      cases f with
      | Attribute y n ap =>
        cases kws with
        | nil =>
          have h':(n == mkN m&&bO y&&ap.endLine == p.line&&decide (xs.length < 30)&&kE S o y&&wX S .nil xs)=true:=h;simp only [ak] at h';obtain ⟨⟨⟨⟨⟨h1,h2⟩,h3⟩,h4⟩,h5⟩,h6⟩:=h';have:=beq_iff_eq.mp h1;subst this;cases xs with
          | nil=>exact ay1 (jK Q o y h5) h2 h3
          | cons _ _=>exact aU h6
        | cons _ _=>exact aU h
      | _=>exact aU h
    | _=>exact aU h
  | .meth m o (.cons c r),e,h=>by
    cases e with
    | Call f xs kws p =>
      cases f with
      | Attribute y n ap =>
        cases kws with
        | nil =>
          have h':(n == mkN m&&bO y&&ap.endLine == p.line&&decide (xs.length < 30)&&kE S o y&&wX S (.cons c r) xs)=true:=h;simp only [ak] at h';obtain ⟨⟨⟨⟨⟨h1,h2⟩,h3⟩,h4⟩,h5⟩,h6⟩:=h';have:=beq_iff_eq.mp h1;subst this;cases xs with
          | nil=>exact aU h6
          | cons x xs =>
            have h7:(!isStar x&&kE S c x&&wX S r xs)=true:=h6;simp only [ak,bx] at h7;exact asQ (jK Q o y h5) (a3S (jK Q c x h7.1.2) (okA Q r xs h7.2) (bH h7.1.1)) h2 h3 h6 (of_decide_eq_true h4)
        | cons _ _=>exact aU h
      | _=>exact aU h
    | _=>exact aU h
  | .comp fl gv ci cc c,e,h=>by
    cases e with
    | ListComp elt gens scope p =>
      cases gens with
      | nil=>exact aU h
      | cons g gr =>
        cases gr with
        | cons _ _=>obtain ⟨tg,it,ifs,a⟩:=g;cases tg <;> exact aU h
        | nil =>
          obtain ⟨tg,it,ifs,a⟩:=g;cases tg with
          | Name x px =>
            have h':(a == 0&&ae2 S [x] scope fl gv&&!isSet it&&kI S false ci it&&kC (S.cmp [x] fl gv) cc ifs&&kE (S.cmp [x] fl gv) c elt)=true:=h;simp only [ak,bx] at h';obtain ⟨⟨⟨⟨⟨h2,h3⟩,h4⟩,h5⟩,h6⟩,h7⟩:=h';have:=beq_iff_eq.mp h2;subst this;exact awW (a7D Q h3) (fun C s H fp pins σ=>aDC (a7D Q h3) Q.nd) ar5 (okI (tt:=false) Q (fun z=>nomatch z) ci it h5) (fun C s H fp pins=>okC (Q.cmp h3 C s H fp pins) cc ifs h6) (fun C s H fp pins=>jK (Q.cmp h3 C s H fp pins) c elt h7) (asU h4)
          | _=>exact aU h
    | _=>exact aU h
  | .fld k c,e,h=>by
    cases e with
    | Attribute y n p =>
      have h':(aoT S k n&&bO y&&kE S c y)=true:=h;simp only [ak] at h';obtain ⟨z,C,hg⟩:=amN h'.1.1;obtain ⟨_,_,_,g⟩:=Q.gm _ _ _ hg;show cR X _ (aEF S.gl k _);unfold aEF;rw [hg];exact aJF (jK Q c y h'.2) g.1 g.2 (fG h'.1.2)
    | _=>exact aU h
  | .rP k c cs,e,h=>by
    cases e with
    | Call f as ks p =>
      cases f with
      | Attribute y n ap =>
        cases ks with
        | cons _ _=>exact aU h
        | nil =>
          have h':(axY S k n&&S.calm&&bO y&&ap.endLine == p.line&&decide (as.length < 30)&&kE S c y&&wX S cs as)=true:=h;simp only [ak] at h';obtain ⟨⟨⟨⟨⟨⟨h1,h2⟩,h3⟩,h4⟩,h5⟩,h6⟩,h7⟩:=h';obtain ⟨z,C,sp,dd,hg⟩:=ay3 h1;obtain ⟨_,_,_,g⟩:=Q.gm _ _ _ hg;obtain ⟨kk,f,fd,ps,ds,dvs,q1,q2,q3,q4,q5,q6,q7⟩:=g h2;obtain ⟨pl,ht⟩:=ay4 (env:=X.env) (m:=n) (fG h3) (a3X (X:=X) (cp:=p) h7 (of_decide_eq_true h5)) h4;show cR X _ (aEG S.gl ex k _ _);unfold aEG;rw [hg];cases cs with
          | nil =>
            cases as with
            | cons _ _=>exact aU h7
            | nil=>exact arJ (jK Q c y h6) q1 q2 q3 q4 q5 q6 q7 Q.cat ht
          | cons c1 cr =>
            cases as with
            | nil=>exact aU h7
            | cons a1 ar =>
              have h8:(!isStar a1&&kE S c1 a1&&wX S cr ar)=true:=h7;simp only [ak,bx] at h8;exact ax1 (jK Q c y h6) q1 q2 q3 q4 q5 q6 q7 Q.cat (a3S (jK Q c1 a1 h8.1.2) (okA Q cr ar h8.2) (bH h8.1.1)) (bH h8.1.1) (tL h8.2) ht
      | _=>exact aU h
    | _=>exact aU h
  | .dix a b,e,h=>by
    cases e with
    | Subscript x y p =>
      have h':(!isSlice y&&kE S a x&&kE S b y)=true:=h;simp only [ak,bx] at h';exact aJG Q.hu (jK Q a x h'.1.2) (jK Q b y h'.2) (aAH h'.1.1)
    | _=>exact aU h
  | .din neg a b,e,h=>by
    cases e with
    | Compare x ops ys p =>
      match ops,ys,h with
      | [o'],[y],h =>
        have h':(o' == (if neg then CmpOp.NotIn else CmpOp.In)&&!behindInMarks o' y&&kE S a x&&kE S b y)=true:=h;simp only [ak,bx] at h';exact aqF (asS Q.hu h'.1.1.1) (jK Q a x h'.1.2) (jK Q b y h'.2) h'.1.1.2
      | [],_,h=>exact aU h
      | _ :: _ :: _,_,h=>exact aU h
      | [_],[],h=>exact aU h
      | [_],_ :: _ :: _,h=>exact aU h
    | _=>exact aU h
  | .dgt c d f,e,h=>by
    cases e with
    | Call g as ks p =>
      cases g with
      | Attribute y n ap =>
        match as,ks,h with
        | [],_,h=>exact aU h
        | [_],_,h=>exact aU h
        | _ :: _ :: _ :: _,_,h=>exact aU h
        | [_,_],_ :: _,h=>exact aU h
        | [x,z],[],h =>
          have h':(n == ("get" : Str)&&bO y&&ap.endLine == p.line&&!isStar x&&!isStar z&&kE S c y&&kE S d x&&kE S f z)=true:=h;simp only [ak,bx] at h';obtain ⟨⟨⟨⟨⟨⟨⟨h0,h1⟩,h2⟩,h3⟩,h4⟩,h5⟩,h6⟩,h7⟩:=h';have:=beq_iff_eq.mp h0;subst this
          have k2:wX S (.cons d (.cons f .nil)) [x,z]=true:=by
            show (!isStar x&&kE S d x&&(!isStar z&&kE S f z&&true))=true;rw [h3,h4,h6,h7];rfl
          exact ax3 Q.hu (jK Q c y h5) (jK Q d x h6) (jK Q f z h7) ⟨fG h1,a3X (X:=X) (cp:=p) k2 (show 2 < 30 by decide),h2,by rw [bH h3,bH h4];rfl⟩
      | _=>exact aU h
    | _=>exact aU h
  | .asK,e,h=>by
    cases e with
    | Dict ks vs p =>
      match ks,vs,h with
      | [],[],_=>exact awP
      | _ :: _,_,h=>exact aU h
      | [],_ :: _,h=>exact aU h
    | _=>exact aU h
  | .dm m o c r,e,h=>by
    cases e with
    | Call f xs kws p =>
      cases f with
      | Attribute y n ap =>
        match xs,kws,h with
        | [],_,h=>exact aU h
        | _ :: _,_ :: _,h=>exact aU h
        | x :: xs,[],h =>
          have h':(n == dmN m&&bO y&&ap.endLine == p.line&&decide ((x :: xs).length < 30)&&kE S o y&&!isStar x&&kE S c x&&wX S r xs)=true:=h;simp only [ak] at h';obtain ⟨⟨⟨⟨⟨⟨⟨h1,h2⟩,h3⟩,h4⟩,h5⟩,h6⟩,h7⟩,h8⟩:=h';have:=beq_iff_eq.mp h1;subst this
          have hk:wX S (.cons c r) (x :: xs)=true:=by
            show (!isStar x&&kE S c x&&wX S r xs)=true;rw [h6,h7,h8];rfl
          simp only [bx] at h6;exact aK2 Q.hu (jK Q o y h5) (a3S (jK Q c x h7) (okA Q r xs h8) (bH h6)) h2 h3 hk (of_decide_eq_true h4)
      | _=>exact aU h
    | _=>exact aU h
  | .sortI k c,e,h=>by
    cases e with
    | Call f as ks p =>
      cases f with
      | Name x q =>
        match as,ks,h with
        | [],_,h=>exact aU h
        | _ :: _ :: _,_,h=>exact aU h
        | [_],_ :: _,h=>exact aU h
        | [w],[],h =>
          have h':(S.calm&&S.gv[k]? == some true&&aoU S k x "sorted" && (match oK w with
            | some (y,n,l)=>l&&n == ("items" : Str)&&bO y&&kE S c y
            | none=>false))=true:=h
          simp only [ak] at h';obtain ⟨⟨⟨h1,h2⟩,h3⟩,h4⟩:=h';cases q2:oK w with
          | none=>rw [q2] at h4;exact aU h4
          | some z =>
            obtain ⟨y,n,l⟩:=z;rw [q2] at h4;simp only [ak] at h4;obtain ⟨⟨⟨h5,h6⟩,h7⟩,h8⟩:=h4;have e6:=beq_iff_eq.mp h6;subst e6;obtain ⟨ap,cp,rfl,rfl⟩:=wY q2;obtain ⟨g1,g2,g3,g4,g5⟩:=amO Q h3 (beq_iff_eq.mp h2);exact axI (Q.cm h1) (jK Q c y h8) g1 g2 g3 g4 g5 (fG h7) h5
      | _=>exact aU h
    | _=>exact aU h
  | .axV k c,e,h=>by
    cases e with
    | Call f as ks p =>
      cases f with
      | Name x q =>
        match as,ks,h with
        | [],_,h=>exact aU h
        | _ :: _ :: _,_,h=>exact aU h
        | [_],_ :: _,h=>exact aU h
        | [w],[],h =>
          have h':(S.calm&&S.gv[k]? == some true&&aoU S k x "sum" && (match oK w with
            | some (y,n,l)=>l&&n == ("values" : Str)&&bO y&&kE S c y
            | none=>false))=true:=h
          simp only [ak] at h';obtain ⟨⟨⟨h1,h2⟩,h3⟩,h4⟩:=h';cases q2:oK w with
          | none=>rw [q2] at h4;exact aU h4
          | some z =>
            obtain ⟨y,n,l⟩:=z;rw [q2] at h4;simp only [ak] at h4;obtain ⟨⟨⟨h5,h6⟩,h7⟩,h8⟩:=h4;have e6:=beq_iff_eq.mp h6;subst e6;obtain ⟨ap,cp,rfl,rfl⟩:=wY q2;obtain ⟨g1,g2,g3,g4,g5⟩:=amO Q h3 (beq_iff_eq.mp h2);exact aE6 (Q.cm h1) (jK Q c y h8) g1 g2 g3 g4 g5 (fG h7) h5
      | _=>exact aU h
    | _=>exact aU h
  | .amJ k c,e,h=>by
    cases e with
    | Call f as ks p =>
      cases f with
      | Name x q =>
        match as,ks,h with
        | [],_,h=>exact aU h
        | _ :: _ :: _,_,h=>exact aU h
        | [_],_ :: _,h=>exact aU h
        | [w],[],h =>
          have h':(S.calm&&S.gv[k]? == some true&&axZ S k x "list" && (match oK w with
            | some (y,n,l)=>l&&n == ("values" : Str)&&bO y&&kE S c y
            | none=>false))=true:=h
          simp only [ak] at h';obtain ⟨⟨⟨h1,h2⟩,h3⟩,h4⟩:=h';cases q2:oK w with
          | none=>rw [q2] at h4;exact aU h4
          | some z =>
            obtain ⟨y,n,l⟩:=z;rw [q2] at h4;simp only [ak] at h4;obtain ⟨⟨⟨h5,h6⟩,h7⟩,h8⟩:=h4;have e6:=beq_iff_eq.mp h6;subst e6;obtain ⟨ap,cp,rfl,rfl⟩:=wY q2;obtain ⟨g1,g2,g3,g4,g5⟩:=ay5 Q h3 (beq_iff_eq.mp h2);exact axS (Q.cm h1) (jK Q c y h8) g1 g2 g3 g4 g5 (fG h7) h5
      | _=>exact aU h
    | _=>exact aU h
  | .deq neg a b,e,h=>by
    cases e with
    | Compare x ops ys p =>
      match ops,ys,h with
      | [o'],[y],h =>
        have h':(o' == (if neg then CmpOp.NotEq else CmpOp.Eq)&&kE S a x&&kE S b y)=true:=h;simp only [ak] at h'
        have hb:behindInMarks o' y=false:=by
          have:=beq_iff_eq.mp h'.1.1;subst this;exact a9T _ (by cases neg <;> decide) (by cases neg <;> decide)
        exact aqF (asT Q.hu h'.1.1) (jK Q a x h'.1.2) (jK Q b y h'.2) hb
      | [],_,h=>exact aU h
      | _ :: _ :: _,_,h=>exact aU h
      | [_],[],h=>exact aU h
      | [_],_ :: _ :: _,h=>exact aU h
    | _=>exact aU h
theorem okA {X:Cx} {S:SI} {ex:aO->aZ} (Q:oW X S ex):∀ (c:CEs) (es:List Expr),wX S c es=true->PA3 X es (mA S.gl X.K ex c)
  | .nil,es,h=>by
    cases es with
    | nil=>exact aqG
    | cons _ _=>exact aU h
  | .cons c r,es,h=>by
    cases es with
    | nil=>exact aU h
    | cons x xs =>
      have h7:(!isStar x&&kE S c x&&wX S r xs)=true:=h;simp only [ak,bx] at h7;exact a3S (jK Q c x h7.1.2) (okA Q r xs h7.2) (bH h7.1.1)
theorem aAI {X:Cx} {S:SI} {ex:aO->aZ} (Q:oW X S ex):∀ (c:CEs) (es:List Expr) (p:Pos),wX S c es=true->cR X (.BoolOp .And es p) (aEI S.gl X.K ex c)
  | .nil,es,p,h=>asN
  | .cons c .nil,es,p,h=>by
    match es,h with
    | [],h=>exact aU h
    | [x],h =>
      have h7:(!isStar x&&kE S c x&&wX S .nil [])=true:=h;simp only [ak,bx] at h7;exact aA0 (jK Q c x h7.1.2)
    | x :: y :: ys,h =>
      have h7:(!isStar x&&kE S c x&&wX S .nil (y :: ys))=true:=h;simp only [ak,bx] at h7;exact aU h7.2
  | .cons c (.cons c' r),es,p,h=>by
    match es,h with
    | [],h=>exact aU h
    | [x],h =>
      have h7:(!isStar x&&kE S c x&&wX S (.cons c' r) [])=true:=h;simp only [ak,bx] at h7;exact aU h7.2
    | x :: y :: ys,h =>
      have h7:(!isStar x&&kE S c x&&wX S (.cons c' r) (y :: ys))=true:=h;simp only [ak,bx] at h7;exact aIB (jK Q c x h7.1.2) (aAI Q (.cons c' r) (y :: ys) p h7.2)
theorem aNQ {X:Cx} {S:SI} {ex:aO->aZ} (Q:oW X S ex):∀ (c:CEs) (es:List Expr) (p:Pos),wX S c es=true->cR X (.BoolOp .Or es p) (mOr S.gl X.K ex c)
  | .nil,es,p,h=>asN
  | .cons c .nil,es,p,h=>by
    match es,h with
    | [],h=>exact aU h
    | [x],h =>
      have h7:(!isStar x&&kE S c x&&wX S .nil [])=true:=h;simp only [ak,bx] at h7;exact aA0 (jK Q c x h7.1.2)
    | x :: y :: ys,h =>
      have h7:(!isStar x&&kE S c x&&wX S .nil (y :: ys))=true:=h;simp only [ak,bx] at h7;exact aU h7.2
  | .cons c (.cons c' r),es,p,h=>by
    match es,h with
    | [],h=>exact aU h
    | [x],h =>
      have h7:(!isStar x&&kE S c x&&wX S (.cons c' r) [])=true:=h;simp only [ak,bx] at h7;exact aU h7.2
    | x :: y :: ys,h =>
      have h7:(!isStar x&&kE S c x&&wX S (.cons c' r) (y :: ys))=true:=h;simp only [ak,bx] at h7;exact aMM (jK Q c x h7.1.2) (aNQ Q (.cons c' r) (y :: ys) p h7.2)
theorem okT {X:Cx} {S:SI} {ex:aO->aZ} (Q:oW X S ex):∀ (c:CT) (e:Expr),kT S c e=true->PT3 X e (mT S.gl X.K ex c)
  | .cmp o a b,e,h=>by
    cases e with
    | Compare x ops ys p =>
      match ops,ys,h with
      | [o'],[y],h =>
        have h':(o == o'&&!behindInMarks o' y&&kE S a x&&kE S b y)=true:=h;simp only [ak,bx] at h';have:=beq_iff_eq.mp h'.1.1.1;subst this;exact alR (a2E Q.hu) (jK Q a x h'.1.2) (jK Q b y h'.2) h'.1.1.2
      | [],_,h=>exact aU h
      | _ :: _ :: _,_,h=>exact aU h
      | [_],[],h=>exact aU h
      | [_],_ :: _ :: _,h=>exact aU h
    | _=>exact aU h
  | .chain o o' a b c,e,h=>by
    cases e with
    | Compare x ops ys p =>
      match ops,ys,h with
      | [p1,p2],[y,z],h =>
        have h':(o == p1&&o' == p2&&!lastMarks [p1,p2] [y,z]&&kE S a x&&kE S b y&&kE S c z)=true:=h;simp only [ak,bx] at h';have e1:=beq_iff_eq.mp h'.1.1.1.1.1;have e2:=beq_iff_eq.mp h'.1.1.1.1.2;subst e1;subst e2;exact awE (a2E Q.hu) (a2E Q.hu) (jK Q a x h'.1.1.2) (jK Q b y h'.1.2) (jK Q c z h'.2) h'.1.1.1.2
      | [],_,h=>exact aU h
      | [_],_,h=>exact aU h
      | _ :: _ :: _ :: _,_,h=>exact aU h
      | [_,_],[],h=>exact aU h
      | [_,_],[_],h=>exact aU h
      | [_,_],_ :: _ :: _ :: _,h=>exact aU h
    | _=>exact aU h
  | .not t,e,h=>by
    cases e with
    | UnaryOp op x p =>
      cases op with
      | Not=>exact aIA (okT Q t x h)
      | _=>exact aU h
    | _=>exact aU h
  | .and ts,e,h=>by
    cases e with
    | BoolOp op xs p =>
      cases op with
      | And=>exact PW.pt (asV Q ts xs p h)
      | Or=>exact aU h
    | _=>exact aU h
  | .or ts,e,h=>by
    cases e with
    | BoolOp op xs p =>
      cases op with
      | Or=>exact PW.pt (aAK Q ts xs p h)
      | And=>exact aU h
    | _=>exact aU h
  | .din neg a b,e,h=>by
    cases e with
    | Compare x ops ys p =>
      match ops,ys,h with
      | [o'],[y],h =>
        have h':(o' == (if neg then CmpOp.NotIn else CmpOp.In)&&!behindInMarks o' y&&kE S a x&&kE S b y)=true:=h;simp only [ak,bx] at h';exact alR (asS Q.hu h'.1.1.1) (jK Q a x h'.1.2) (jK Q b y h'.2) h'.1.1.2
      | [],_,h=>exact aU h
      | _ :: _ :: _,_,h=>exact aU h
      | [_],[],h=>exact aU h
      | [_],_ :: _ :: _,h=>exact aU h
    | _=>exact aU h
  | .ntu a b,e,h=>by
    cases e with
    | Compare x ops ys p =>
      match ops,ys,h with
      | [o'],[y],h =>
        have h':(o' == CmpOp.NotIn&&!behindInMarks o' y&&kE S a x&&kE S b y)=true:=h;simp only [ak,bx] at h';have e:=beq_iff_eq.mp h'.1.1.1;subst e;exact alR (aEB Q.hu) (jK Q a x h'.1.2) (jK Q b y h'.2) h'.1.1.2
      | [],_,h=>exact aU h
      | _ :: _ :: _,_,h=>exact aU h
      | [_],[],h=>exact aU h
      | [_],_ :: _ :: _,h=>exact aU h
    | _=>exact aU h
  | .deq neg a b,e,h=>by
    cases e with
    | Compare x ops ys p =>
      match ops,ys,h with
      | [o'],[y],h =>
        have h':(o' == (if neg then CmpOp.NotEq else CmpOp.Eq)&&kE S a x&&kE S b y)=true:=h;simp only [ak] at h'
        have hb:behindInMarks o' y=false:=by
          have:=beq_iff_eq.mp h'.1.1;subst this;exact a9T _ (by cases neg <;> decide) (by cases neg <;> decide)
        exact alR (asT Q.hu h'.1.1) (jK Q a x h'.1.2) (jK Q b y h'.2) hb
      | [],_,h=>exact aU h
      | _ :: _ :: _,_,h=>exact aU h
      | [_],[],h=>exact aU h
      | [_],_ :: _ :: _,h=>exact aU h
    | _=>exact aU h
  | .val c,e,h=>by
    have h':(plainT e&&kE S c e)=true:=h;rw [ak] at h';exact aI6 (jK Q c e h'.2) (aEN h'.1)
theorem asV {X:Cx} {S:SI} {ex:aO->aZ} (Q:oW X S ex):∀ (c:CTs) (es:List Expr) (p:Pos),kTs S c es=true->PW3 X (.BoolOp .And es p) (asL S.gl X.K ex c)
  | .nil,es,p,h=>fun _ _ _ _ _ _ _ ⟨_,_,_,_,_,z,_⟩=>z.elim
  | .cons c .nil,es,p,h=>by
    match es,h with
    | [],h=>exact aU h
    | [x],h =>
      have h7:(kT S c x&&kTs S .nil [])=true:=h;simp only [ak] at h7;exact aCF (okT Q c x h7.1)
    | x :: y :: ys,h =>
      have h7:(kT S c x&&kTs S .nil (y :: ys))=true:=h;simp only [ak] at h7;exact aU h7.2
  | .cons c (.cons c' r),es,p,h=>by
    match es,h with
    | [],h=>exact aU h
    | [x],h =>
      have h7:(kT S c x&&kTs S (.cons c' r) [])=true:=h;simp only [ak] at h7;exact aU h7.2
    | x :: y :: ys,h =>
      have h7:(kT S c x&&kTs S (.cons c' r) (y :: ys))=true:=h;simp only [ak] at h7;exact aI9 (okT Q c x h7.1) (asV Q (.cons c' r) (y :: ys) p h7.2)
theorem aAK {X:Cx} {S:SI} {ex:aO->aZ} (Q:oW X S ex):∀ (c:CTs) (es:List Expr) (p:Pos),kTs S c es=true->PW3 X (.BoolOp .Or es p) (aEJ S.gl X.K ex c)
  | .nil,es,p,h=>fun _ _ _ _ _ _ _ ⟨_,_,_,_,_,z,_⟩=>z.elim
  | .cons c .nil,es,p,h=>by
    match es,h with
    | [],h=>exact aU h
    | [x],h =>
      have h7:(kT S c x&&kTs S .nil [])=true:=h;simp only [ak] at h7;exact aI8 (okT Q c x h7.1)
    | x :: y :: ys,h =>
      have h7:(kT S c x&&kTs S .nil (y :: ys))=true:=h;simp only [ak] at h7;exact aU h7.2
  | .cons c (.cons c' r),es,p,h=>by
    match es,h with
    | [],h=>exact aU h
    | [x],h =>
      have h7:(kT S c x&&kTs S (.cons c' r) [])=true:=h;simp only [ak] at h7;exact aU h7.2
    | x :: y :: ys,h =>
      have h7:(kT S c x&&kTs S (.cons c' r) (y :: ys))=true:=h;simp only [ak] at h7;exact aML (okT Q c x h7.1) (aAK Q (.cons c' r) (y :: ys) p h7.2)
theorem okO {X:Cx} {S:SI} {ex:aO->aZ} (Q:oW X S ex):∀ (c:CO) (e:Option Expr),kO S c e=true->PO3 X e (mO S.gl X.K ex c)
  | .none,e,h=>by
    cases e with
    | none=>exact aCJ
    | some _=>exact aU h
  | .some c,e,h=>by
    cases e with
    | none=>exact aU h
    | some x=>exact aCK (jK Q c x h)
theorem okI {X:Cx} {S:SI} {ex:aO->aZ} (Q:oW X S ex) {tg:Expr} {tt:Bool} (htt:tt=true->X.calm=true/\∃ es kt pt,tg = .Tuple es kt pt):∀ (c:CI) (e:Expr),kI S tt c e=true->PI3 X tg e (mI S.gl X.K ex c)
  | .any c,e,h=>aJ2 (jK Q c e h)
  | .akN c,e,h=>by
    cases e with
    | Call f as ks p =>
      cases f with
      | Name r q =>
        cases as with
        | nil=>exact aU h
        | cons y yr =>
          cases yr with
          | cons _ _=>exact aU h
          | nil =>
            cases ks with
            | cons _ _=>exact aU h
            | nil =>
              have h':(r == ("range" : Str)&&a5W S&&!isStar y&&kE S c y)=true:=h;simp only [ak,bx] at h';obtain ⟨⟨⟨h1,h2⟩,h3⟩,h4⟩:=h';have:=beq_iff_eq.mp h1;subst this;obtain ⟨g1,g2⟩:=ai2 Q h2;exact aD7 g1 g2 (a3S (jK Q c y h4) aqG (bH h3)) (bH h3)
      | _=>exact aU h
    | _=>exact aU h
  | .items c,e,h=>by
    have h':(tt&&(match oK e with
      | some (y,n,l)=>l&&n == ("items" : Str)&&bO y&&kE S c y
      | none=>false))=true:=h
    rw [ak] at h';obtain ⟨h0,h4⟩:=h';cases q2:oK e with
    | none=>rw [q2] at h4;exact aU h4
    | some z =>
      obtain ⟨y,n,l⟩:=z;rw [q2] at h4;simp only [ak] at h4;obtain ⟨⟨⟨h5,h6⟩,h7⟩,h8⟩:=h4;have e6:=beq_iff_eq.mp h6;subst e6;obtain ⟨ap,cp,rfl,rfl⟩:=wY q2;obtain ⟨hc,es,kt,pt,rfl⟩:=htt h0;exact axL hc (jK Q c y h8) (fG h7) h5
  | .keys c,e,h=>by
    have h':(S.calm&&kE S c e)=true:=h;rw [ak] at h';exact aEA (Q.cm h'.1) (jK Q c e h'.2)
theorem okC {X:Cx} {S:SI} (Q:oW X S NoX):∀ (c:CC) (es:List Expr),kC S c es=true->aqZ X es (mC S.gl X.K c)
  | .none,es,h=>by
    cases es with
    | nil=>exact awU
    | cons _ _=>exact aU h
  | .some t,es,h=>by
    match es,h with
    | [],h=>exact aU h
    | [x],h=>exact awV (okT Q t x h)
    | _ :: _ :: _,h=>exact aU h
end
end L4
namespace L4
open PySem PySem.Spec PyProof.Rows L2
inductive CTg where
  | nm (i:Nat) | tup (is:List Nat)
mutual
inductive CS where
  | ret (e:CE) | expr (e:CE) | ifs (t:CT) (a b:CB) | set (i:Nat) (e:CE)
  | raise (k:Nat) (e:CE) (es:CEs) | ay6 (k i:Nat) (b h:CB) | pass
  | asW (ci:CI) (tg:CTg) (b:CB) | aoW (ci:CI) (tg:CTg) (b:CB)
  | asY (is:List Nat) (e:CE) | aoX (k:Nat) (o e:CE) | akQ (o i e:CE) | hid (i:Nat) (nm:Str) (s:CS)
inductive CB where
  | nil | cons (s:CS) (r:CB)
end
noncomputable def asZ:bJ:=fun _ _ _=>False
noncomputable abbrev SI.han (S:SI):SI:={ S with calm:=false }
noncomputable abbrev SI.hid (S:SI) (i:Nat) (nm:Str):SI:={ S with N:=S.N.set i nm,fl:=S.fl.set i false,lc:=S.lc.set i false,ce:=S.ce.set i false }
noncomputable def mIS (T:List (Str×GT)) (K:Fg) (ex:aO->aZ):CI->TI3
  | .any e=>awX (mE T K ex e)
  | .akN e=>a72 (aA (mE T K ex e) aD)
  | .items e=>sG true (mE T K ex e)
  | .keys e=>tK true (mE T K ex e)
noncomputable def mIF (T:List (Str×GT)) (K:Fg) (ex:aO->aZ):CI->TI3
  | .items e=>sG false (mE T K ex e)
  | .keys e=>tK false (mE T K ex e)
  | _=>fun _ _ _=>False
noncomputable def mG:CTg->TG3
  | .nm i=>a3U i
  | .tup is=>aaD is
noncomputable def ay7 (T:List (Str×GT)) (ex:aO->aZ) (k:Nat) (t:yH):bJ:=match T[k]? with
  | some (_,.cls a)=>pL ex a t
  | _=>asZ
noncomputable def ay8 (T:List (Str×GT)) (K:Fg) (k i:Nat) (tb:(aO->aZ)->bJ) (th:bJ):bJ:=match T[k]? with
  | some (_,.cls a)=>agV K a i tb th
  | _=>asZ
noncomputable def aEQ (T:List (Str×GT)) (k:Nat) (to te:cL):bJ:=match T[k]? with
  | some (_,.fl C f)=>a75 C to te f
  | _=>asZ
noncomputable def ae5 (S:SI) (k:Nat) (x:Str):Bool:=match S.gl[k]? with
  | some (z,.cls _)=>z == x
  | _=>false
mutual
noncomputable def mS (T:List (Str×GT)) (K:Fg) (ex:aO->aZ):CS->bJ
  | .ret e=>d7 (mE T K ex e)
  | .expr e=>cF (mE T K ex e)
  | .ifs t a b=>gR (mT T K ex t) (mB T K ex a) (mB T K ex b)
  | .set i e=>eU i (mE T K ex e)
  | .raise k e es=>ay7 T ex k (aA (mE T K ex e) (mA T K ex es))
  | .ay6 k i b h=>ay8 T K k i (fun EX2=>mB T K EX2 b) (mB T K NoX h)
  | .asW ci tg b=>aaE (mIS T K ex ci) (mG tg) (mB T K ex b)
  | .aoW ci tg b=>a2D (mIF T K ex ci) (mG tg) (mB T K ex b)
  | .asY is e=>aaF is (mE T K ex e)
  | .aoX k o e=>aEQ T k (mE T K ex o) (mE T K ex e)
  | .akQ o i e=>a3V (mE T K ex o) (mE T K ex i) (mE T K ex e)
  | .hid i _ s=>am7 i (mS T K (fun ρ=>ex (rB ρ i)) s)
  | .pass=>cT
noncomputable def mB (T:List (Str×GT)) (K:Fg) (ex:aO->aZ):CB->bJ
  | .nil=>cT
  | .cons s .nil=>mS T K ex s
  | .cons s (.cons s' r)=>aR (mS T K ex s) (mB T K ex (.cons s' r))
end
noncomputable def isTup:Expr->Bool
  | .Tuple ..=>true
  | _=>false
noncomputable def tO:Expr->Bool
  | .ListComp ..=>true
  | .SetComp ..=>true
  | .DictComp ..=>true
  | _=>false
noncomputable def kTg (S:SI):CTg->Expr->Bool
  | .nm i,.Name x _=>S.N[i]? == some x&&S.fl[i]? == some true
  | .tup is,.Tuple es _ _=>kNs S is es
  | _,_=>false
where
  kNs (S:SI):List Nat->List Expr->Bool
  | [],[]=>true
  | i :: is,.Name x _ :: es=>S.N[i]? == some x&&S.fl[i]? == some true&&kNs S is es
  | _,_=>false
noncomputable def at4 (S:SI):CTg->Bool
  | .nm _=>true
  | .tup _=>S.calm
mutual
noncomputable def kS (S:SI) (lv:Nat):CS->Stmt->Bool
  | .ret e,.Return (some x) _=>kE S e x
  | .expr e,.Expr x _=>!tO x&&kE S e x
  | .ifs t a b,.If x y z _=>kT S t x&&kB S lv a y&&kB S lv b z
  | .set i e,.Assign [.Name x _] y _=>S.N[i]? == some x&&S.fl[i]? == some true&&!tO y&&kE S e y
  | .raise k e es,.Raise (some (.Call (.Name x _) (y :: ys) [] _)) none _=>lv == 0&&S.calm&&!isStar y&&kE S e y&&wX S es ys&&S.gv[k]? == some true&&ae5 S k x
  | .ay6 k i b h,.Try y [.ExceptHandler (some (.Name x _)) (some n) (z :: zs) _] [] [] _=>lv == 0&&S.calm&&S.N[i]? == some n&&S.lc[i]? == some true&&kB S 1 b y&&kB S.han 2 h (z :: zs)&&S.gv[k]? == some true&&ae5 S k x
  | .asY is e,.Assign [.Tuple es _ _] y _=>S.calm&&!isTup y&&!tO y&&kTg.kNs S is es&&kE S e y
  | .aoX k o e,.Assign [.Attribute x n _] z _=>aoT S k n&&!tO z&&kE S o x&&kE S e z
  | .akQ o i e,.Assign [.Subscript x y _] z _=>!isSlice y&&!tO z&&kE S o x&&kE S i y&&kE S e z
  | .hid i nm s,st=>!S.N.contains nm&&kS (S.hid i nm) lv s st
  | .asW ci tg b,.For tgt iter body [] _=>lv != 1&&at4 S tg&&!isSet iter&&kTg S tg tgt&&kI S (isTup tgt&&S.calm) ci iter&&kB S lv b body
  | .aoW ci tg b,.For tgt iter body [] _=>lv != 1&&at4 S tg&&!isSet iter&&kTg S tg tgt&&kI S (isTup tgt&&S.calm) ci iter&&kB S lv b body
  | .pass,.Pass _=>true
  | _,_=>false
noncomputable def kB (S:SI) (lv:Nat):CB->List Stmt->Bool
  | .nil,[]=>true
  | .cons s r,x :: xs=>kS S lv s x&&kB S lv r xs
  | _,_=>false
end
structure a7E (X:Cx) (S:SI) (ex:aO->aZ) (lv:Nat):Prop where
  si:oW X S ex
  loc:∀ (i:Nat) (x:Str),S.N[i]?=some x->S.fl[i]?=some true->Loc X.env.scope x
  lcl:∀ (i:Nat) (x:Str),S.N[i]?=some x->S.lc[i]?=some true->X.env.kindOf x=some .local
  fn:∀ x,X.fn x=true
  cls:∀ (k:Nat) (x:Str) (a:Addr),S.gl[k]?=some (x,.cls a)->S.gv[k]?=some true->jf X.K a BMv "ValueError.__new__" = true/\(jd X.K a).isSome=true/\jh X.K (.ref a)=some (.type "type")/\iy X.K (.ref a) (.type "BaseException")=some true
  l0:lv≠1->PassesOwn (model X.prog X.w) X.A X.env X.xe
  rz:lv=0->S.calm=true->Thr X ex
  stk:X.stack=X.env :: X.outer
  frm:X.env.frame=some X.env.locals
variable {e:Expr}{env:Env}
theorem ai3 {t:Option Expr} {n:Nat} (h:tO e=false):swapsWith e t n env=pure false:=by
  cases e <;> first | rfl | exact absurd (show true=false from h) (by decide)
theorem aES {es:List Expr} {k:Nat} {tp:Pos} (h:isTup e=false):swappedStores [.Tuple es k tp] e env=pure none:=by
  cases e <;> first | rfl | exact absurd (show true=false from h) (by decide)
variable {X:Cx}{S:SI}{ex:aO->aZ}{lv:Nat}
theorem a7E.tr (Q:a7E X S ex lv) (pn:List (Addr×Obj)) (EX:aO->aZ):a7E (awL X pn EX) S EX 1 where
  si:=⟨Q.si.N,Q.si.nd,Q.si.vis,Q.si.ce,fun k x g h=>by
    obtain ⟨h1,h2,h3,h4⟩:=Q.si.gm k x g h;refine ⟨h1,h2,h3,?_⟩;cases g <;> exact h4,Q.si.hu,Q.si.cm,aMY pn EX⟩
  loc:=Q.loc
  lcl:=Q.lcl
  fn:=Q.fn
  cls:=Q.cls
  l0:=fun z=>absurd rfl z
  rz:=fun z=>absurd z (by decide)
  stk:=Q.stk
  frm:=Q.frm
theorem a7E.ha (Q:a7E X S ex lv) (x:Addr):a7E (aoA X x) S.han NoX 2 where
  si:=⟨Q.si.N,Q.si.nd,Q.si.vis,Q.si.ce,fun k y g h=>by
    obtain ⟨h1,h2,h3,h4⟩:=Q.si.gm k y g h;refine ⟨h1,h2,h3,?_⟩;cases g with
    | fn sp n qt =>
      intro z;have hq:qt=true:=z.resolve_right (show ¬ (false=true) by decide);subst hq;obtain ⟨k,f,fd,ps,F,hr,r⟩:=h4 (.inl rfl);exact ⟨k,f,fd,ps,F,⟨(fun z=>nomatch z),hr.dp,hr.un⟩,r⟩
    | kl C sp dd=>exact fun z=>nomatch z
    | me C m sp dd=>exact fun z=>nomatch z
    | _=>exact h4,Q.si.hu,fun z=>absurd (show false=true from z) (by decide),asR⟩
  loc:=Q.loc
  lcl:=Q.lcl
  fn:=Q.fn
  cls:=Q.cls
  l0:=fun _=>PassesOwn.never
  rz:=fun z=>absurd z (by decide)
  stk:=Q.stk
  frm:=Q.frm
variable {x:Str}
theorem ai4 {k:Nat} (h:ae5 S k x=true):∃ a,S.gl[k]?=some (x,.cls a):=by
  unfold ae5 at h;split at h
  . rename_i z a hg;have:=beq_iff_eq.mp h;subst this;exact ⟨a,hg⟩
  . exact aU h
variable {T:List (Str×GT)}{a:Addr}
theorem ayA {k:Nat} {t:yH} (h:T[k]?=some (x,.cls a)):ay7 T ex k t=pL ex a t:=by unfold ay7;rw [h]
variable {i:Nat}
theorem ayB {K:Fg} {k:Nat} {tb:(aO->aZ)->bJ} {th:bJ} (h:T[k]?=some (x,.cls a)):ay8 T K k i tb th=agV K a i tb th:=by unfold ay8;rw [h]
theorem at5 (Q:a7E X S ex lv) {k:Nat} {e:CE} {es:CEs} {y:Expr} {ys:List Expr} {np cp pos:Pos} (h:kS S lv (.raise k e es) (.Raise (some (.Call (.Name x np) (y :: ys) [] cp)) none pos)=true) :
    PS3 X (.Raise (some (.Call (.Name x np) (y :: ys) [] cp)) none pos) (ay7 S.gl ex k (aA (mE S.gl X.K ex e) (mA S.gl X.K ex es))):=by
  have h':(lv == 0&&S.calm&&!isStar y&&kE S e y&&wX S es ys&&S.gv[k]? == some true&&ae5 S k x)=true:=h;simp only [ak,bx] at h';obtain ⟨⟨⟨⟨⟨⟨h0,hcm⟩,h1⟩,h2⟩,h3⟩,hv⟩,h⟩:=h';have hv:=beq_iff_eq.mp hv;obtain ⟨a,hg⟩:=ai4 h;rw [ayA hg];have l1:=Q.si.cm hcm;have l2:=Q.rz (beq_iff_eq.mp h0) hcm;obtain ⟨g1,g2,g3,g4,g5⟩:=Q.si.gl _ _ _ hg hv;exact awK l1 PySem.F.excBase_ValueError (by decide) PySem.F.excBase_ValueError g1 g4 (Q.cls _ _ _ hg hv).1 l2 (a3S (jK Q.si e y h2) (okA Q.si es ys h3) (bH h1)) g2 (bH h1) (tL h3)
theorem akR {X:Cx} {S:SI} {ex:aO->aZ} {lv:Nat} (Q:a7E X S ex lv):∀ {is:List Nat} {es:List Expr},kTg.kNs S is es=true->Two (aDE X) es is
  | [],[],_ => .nil
  | [],_ :: _,h=>by exact aU h
  | _ :: _,[],h=>by exact aU h
  | i :: is,e :: es,h=>by
    cases e with
    | Name x p =>
      have h':(S.N[i]? == some x&&S.fl[i]? == some true&&kTg.kNs S is es)=true:=h;simp only [ak] at h';have e1:=beq_iff_eq.mp h'.1.1;exact .cons ⟨x,p,rfl,by rw [Q.si.N];exact e1,Q.loc i x e1 (beq_iff_eq.mp h'.1.2),.inl (Q.fn x)⟩ (akR Q h'.2)
    | _=>exact aU h
theorem aAL (Q:a7E X S ex lv):∀ {c:CTg} {e:Expr},at4 S c=true->kTg S c e=true->PG3 X e (mG c)
  | .nm i,e,_,h=>by
    cases e with
    | Name x p =>
      have h':(S.N[i]? == some x&&S.fl[i]? == some true)=true:=h;simp only [ak] at h';have e1:=beq_iff_eq.mp h'.1;exact aDD Q.si.nd (by rw [Q.si.N];exact e1) (Q.loc i x e1 (beq_iff_eq.mp h'.2)) (.inl (Q.fn x))
    | _=>exact aU h
  | .tup is,e,hc,h=>by
    cases e with
    | Tuple es k p=>exact aA4 Q.si.nd (Q.si.cm hc) (akR Q h)
    | _=>exact aU h
variable {tg:Expr}{tt:Bool}
theorem aNR (Q:oW X S ex) (htt:tt=true->X.calm=true/\∃ es kt pt,tg = .Tuple es kt pt):∀ (c:CI) (e:Expr),kI S tt c e=true->PIS X tg e (mIS S.gl X.K ex c)
  | .any c,e,h=>aDG (jK Q c e h)
  | .akN c,e,h=>by
    cases e with
    | Call f as ks p =>
      cases f with
      | Name r q =>
        cases as with
        | nil=>exact aU h
        | cons y yr =>
          cases yr with
          | cons _ _=>exact aU h
          | nil =>
            cases ks with
            | cons _ _=>exact aU h
            | nil =>
              have h':(r == ("range" : Str)&&a5W S&&!isStar y&&kE S c y)=true:=h;simp only [ak,bx] at h';obtain ⟨⟨⟨h1,h2⟩,h3⟩,h4⟩:=h';have:=beq_iff_eq.mp h1;subst this;obtain ⟨g1,g2⟩:=ai2 Q h2;exact awZ g1 g2 (a3S (jK Q c y h4) aqG (bH h3)) (bH h3)
      | _=>exact aU h
    | _=>exact aU h
  | .items c,e,h=>by
    have h':(tt&&(match oK e with
      | some (y,n,l)=>l&&n == ("items" : Str)&&bO y&&kE S c y
      | none=>false))=true:=h
    rw [ak] at h';obtain ⟨h0,h4⟩:=h';cases q2:oK e with
    | none=>rw [q2] at h4;exact aU h4
    | some z =>
      obtain ⟨y,n,l⟩:=z;rw [q2] at h4;simp only [ak] at h4;obtain ⟨⟨⟨h5,h6⟩,h7⟩,h8⟩:=h4;have e6:=beq_iff_eq.mp h6;subst e6;obtain ⟨ap,cp,rfl,rfl⟩:=wY q2;obtain ⟨hc,es,kt,pt,rfl⟩:=htt h0;exact as7 hc (jK Q c y h8) (fG h7) h5
  | .keys c,e,h=>by
    have h':(S.calm&&kE S c e)=true:=h;rw [ak] at h';exact axO (Q.cm h'.1) (jK Q c e h'.2)
theorem at6:PIF X tg e (fun _ _ _=>False):=fun _ _ _ _ _ _ ⟨_,_,_,_,_,z,_⟩=>z.elim
theorem aNS (Q:oW X S ex) (htt:tt=true->X.calm=true/\∃ es kt pt,tg = .Tuple es kt pt):∀ (c:CI) (e:Expr),kI S tt c e=true->PIF X tg e (mIF S.gl X.K ex c)
  | .any c,e,h=>at6
  | .akN c,e,h=>at6
  | .items c,e,h=>by
    have h':(tt&&(match oK e with
      | some (y,n,l)=>l&&n == ("items" : Str)&&bO y&&kE S c y
      | none=>false))=true:=h
    rw [ak] at h';obtain ⟨h0,h4⟩:=h';cases q2:oK e with
    | none=>rw [q2] at h4;exact aU h4
    | some z =>
      obtain ⟨y,n,l⟩:=z;rw [q2] at h4;simp only [ak] at h4;obtain ⟨⟨⟨h5,h6⟩,h7⟩,h8⟩:=h4;have e6:=beq_iff_eq.mp h6;subst e6;obtain ⟨ap,cp,rfl,rfl⟩:=wY q2;obtain ⟨hc,es,kt,pt,rfl⟩:=htt h0;exact asC hc (jK Q c y h8) (fG h7) h5
  | .keys c,e,h=>by
    have h':(S.calm&&kE S c e)=true:=h;rw [ak] at h';exact axP (Q.cm h'.1) (jK Q c e h'.2)
theorem afG {j:Nat} {l:List Bool} (h:(l.set i false)[j]?=some true):i≠j/\l[j]?=some true:=by
  by_cases c:i=j
  . subst c;by_cases k:i < l.length
    . rw [yq k] at h;cases h
    . rw [qp (by rw [List.length_set];omega)] at h;cases h
  . rw [kj c] at h;exact ⟨c,h⟩
theorem aET {nm:Str} (Q:oW X S ex) (n:nm ∉ S.N):oW (af8 X i nm) (S.hid i nm) (fun ρ=>ex (rB ρ i)) where
  N:=by show X.N.set i _=S.N.set i _;rw [Q.N]
  nd:=aaQ Q.nd (by rw [Q.N];exact n)
  vis:=fun j x e1 e2=>by
    obtain ⟨c,e2⟩:=afG e2;have e1:(S.N.set i nm)[j]?=some x:=e1;rw [kj c] at e1;exact Q.vis j x e1 e2
  ce:=fun j x e1 e2=>by
    obtain ⟨c,e2⟩:=afG e2;have e1:(S.N.set i nm)[j]?=some x:=e1;rw [kj c] at e1;exact Q.ce j x e1 e2
  gm:=fun k x g e=>by
    obtain ⟨a,b,c,d⟩:=Q.gm k x g e;refine ⟨a,b,c,?_⟩;cases g <;> exact d
  hu:=Q.hu
  cm:=Q.cm
  cat:=arT Q.cat
theorem aEU {nm:Str} (Q:a7E X S ex lv) (n:nm ∉ S.N):a7E (af8 X i nm) (S.hid i nm) (fun ρ=>ex (rB ρ i)) lv where
  si:=aET Q.si n
  loc:=fun j x e1 e2=>by
    obtain ⟨c,e2⟩:=afG e2;have e1:(S.N.set i nm)[j]?=some x:=e1;rw [kj c] at e1;exact Q.loc j x e1 e2
  lcl:=fun j x e1 e2=>by
    obtain ⟨c,e2⟩:=afG e2;have e1:(S.N.set i nm)[j]?=some x:=e1;rw [kj c] at e1;exact Q.lcl j x e1 e2
  fn:=Q.fn
  cls:=Q.cls
  l0:=Q.l0
  rz:=fun a b=>arU (Q.rz a b)
  stk:=Q.stk
  frm:=Q.frm
theorem ai5 (h:isTup e=true):∃ es kt pt,e = .Tuple es kt pt:=by
  cases e <;> first | exact ⟨_,_,_,rfl⟩ | exact aU h
mutual
theorem okS:∀ (c:CS) {X:Cx} {S:SI} {ex:aO->aZ} {lv:Nat},a7E X S ex lv->∀ (st:Stmt),kS S lv c st=true->PS3 X st (mS S.gl X.K ex c)
  | .hid i nm c,X,S,ex,lv,Q,st,h=>by
    have h':(!S.N.contains nm&&kS (S.hid i nm) lv c st)=true:=by
      cases st <;> exact h
    rw [ak,bx] at h'
    exact aE4 (okS c (aEU Q (by
      intro z;rw [List.contains_iff_mem.mpr z] at h';cases h'.1)) st h'.2)
  | .ret e,X,S,ex,lv,Q,st,h=>by
    cases st with
    | Return v p =>
      cases v with
      | some x=>exact aIQ (jK Q.si e x h)
      | none=>exact aU h
    | _=>exact aU h
  | .expr e,X,S,ex,lv,Q,st,h=>by
    cases st with
    | Expr x p =>
      have h':(!tO x&&kE S e x)=true:=h;simp only [ak,bx] at h';exact aCO (jK Q.si e x h'.2) (ai3 h'.1)
    | _=>exact aU h
  | .ifs t a b,X,S,ex,lv,Q,st,h=>by
    cases st with
    | If x y z p =>
      have h':(kT S t x&&kB S lv a y&&kB S lv b z)=true:=h;simp only [ak] at h';exact aMU (okT Q.si t x h'.1.1) (okB a Q y h'.1.2) (okB b Q z h'.2)
    | _=>exact aU h
  | .set i e,X,S,ex,lv,Q,st,h=>by
    cases st with
    | Assign ts y p =>
      cases ts with
      | nil=>exact aU h
      | cons t r =>
        cases r with
        | cons _ _=>cases t <;> exact aU h
        | nil =>
          cases t with
          | Name x q =>
            have h':(S.N[i]? == some x&&S.fl[i]? == some true&&!tO y&&kE S e y)=true:=h;simp only [ak,bx] at h';have e1:=beq_iff_eq.mp h'.1.1.1;exact aIR (i:=i) Q.si.nd (by rw [Q.si.N];exact e1) (Q.loc i x e1 (beq_iff_eq.mp h'.1.1.2)) (jK Q.si e y h'.2) (ai3 h'.1.2) (.inl (Q.fn x))
          | _=>exact aU h
    | _=>exact aU h
  | .aoX k o e,X,S,ex,lv,Q,st,h=>by
    cases st with
    | Assign ts z p =>
      cases ts with
      | nil=>exact aU h
      | cons t r =>
        cases r with
        | cons _ _=>cases t <;> exact aU h
        | nil =>
          cases t with
          | Attribute x n q =>
            have h':(aoT S k n&&!tO z&&kE S o x&&kE S e z)=true:=h;simp only [ak,bx] at h';obtain ⟨y,C,hg⟩:=amN h'.1.1.1;obtain ⟨_,_,_,g⟩:=Q.si.gm _ _ _ hg;show PS3 X _ (aEQ S.gl k _ _);unfold aEQ;rw [hg];exact aDQ (jK Q.si o x h'.1.2) (jK Q.si e z h'.2) g.1 g.2 (ai3 h'.1.1.2)
          | _=>exact aU h
    | _=>exact aU h
  | .akQ o i e,X,S,ex,lv,Q,st,h=>by
    cases st with
    | Assign ts z p =>
      cases ts with
      | nil=>exact aU h
      | cons t r =>
        cases r with
        | cons _ _=>cases t <;> exact aU h
        | nil =>
          cases t with
          | Subscript x y q =>
            have h':(!isSlice y&&!tO z&&kE S o x&&kE S i y&&kE S e z)=true:=h;simp only [ak,bx] at h';exact aDS Q.si.hu (jK Q.si o x h'.1.1.2) (jK Q.si i y h'.1.2) (jK Q.si e z h'.2) (ai3 h'.1.1.1.2)
          | _=>exact aU h
    | _=>exact aU h
  | .raise k e es,X,S,ex,lv,Q,st,h=>by
    cases st with
    | Raise a b p =>
      cases a with
      | none=>exact aU h
      | some a =>
        cases a with
        | Call f as ks q =>
          cases f with
          | Name x np =>
            cases as with
            | nil=>exact aU h
            | cons y ys =>
              cases ks with
              | cons _ _=>exact aU h
              | nil =>
                cases b with
                | some _=>exact aU h
                | none=>exact at5 Q h
          | _=>exact aU h
        | _=>exact aU h
    | _=>exact aU h
  | .ay6 k i b hb,X,S,ex,lv,Q,st,h=>by
    cases st with
    | Try y hs el fin p =>
      cases hs with
      | nil=>exact aU h
      | cons hd tl =>
        obtain ⟨ty,nm,suite,hp⟩:=hd;cases tl with
        | cons _ _=>cases ty <;> first | exact aU h | (rename_i ty;cases ty <;> cases nm <;> cases suite <;> exact aU h)
        | nil =>
          cases ty with
          | none=>exact aU h
          | some ty =>
            cases ty with
            | Name x cp =>
              cases nm with
              | none=>exact aU h
              | some n =>
                cases suite with
                | nil=>exact aU h
                | cons z zs =>
                  cases el with
                  | cons _ _=>exact aU h
                  | nil =>
                    cases fin with
                    | cons _ _=>exact aU h
                    | nil =>
                      have h':(lv == 0&&S.calm&&S.N[i]? == some n&&S.lc[i]? == some true&&kB S 1 b y&&kB S.han 2 hb (z :: zs)&&S.gv[k]? == some true&&ae5 S k x)=true:=h;simp only [ak] at h';obtain ⟨⟨⟨⟨⟨⟨⟨h0,hcm⟩,h1⟩,h2⟩,h3⟩,h4⟩,hv⟩,h⟩:=h';have hv:=beq_iff_eq.mp hv;obtain ⟨a,hg⟩:=ai4 h;show PS3 X _ (ay8 S.gl X.K k i (fun EX2=>mB S.gl X.K EX2 b) (mB S.gl X.K NoX hb));rw [ayB hg];have e1:=beq_iff_eq.mp h1;obtain ⟨g1,g2,g3,g4,g5⟩:=Q.si.gl _ _ _ hg hv;obtain ⟨c1,c2,c3,c4⟩:=Q.cls _ _ _ hg hv;exact aIU (i:=i) (Q.si.cm hcm) Q.si.nd (by rw [Q.si.N];exact e1) (Q.lcl i n e1 (beq_iff_eq.mp h2)) Q.stk Q.frm g1 g4 c2 c3 c4 (fun pn EX=>okB b (Q.tr pn EX) y h3) (fun xx=>okB hb (Q.ha xx) (z :: zs) h4) g2
            | _=>exact aU h
    | _=>exact aU h
  | .asY is e,X,S,ex,lv,Q,st,h=>by
    cases st with
    | Assign ts y p =>
      cases ts with
      | nil=>exact aU h
      | cons t r =>
        cases r with
        | cons _ _=>cases t <;> exact aU h
        | nil =>
          cases t with
          | Tuple es k tp =>
            have h':(S.calm&&!isTup y&&!tO y&&kTg.kNs S is es&&kE S e y)=true:=h;simp only [ak,bx] at h';obtain ⟨⟨⟨⟨h1,h2⟩,h3⟩,h4⟩,h5⟩:=h';exact aDJ (aA4 Q.si.nd (Q.si.cm h1) (akR Q h4)) (jK Q.si e y h5) (show swapsWith y (some (.Tuple es k tp)) p.line X.env=pure false from ai3 h3) (aES h2) rfl
          | _=>exact aU h
    | _=>exact aU h
  | .asW ci tg b,X,S,ex,lv,Q,st,h=>by
    cases st with
    | For tgt it body el p =>
      cases el with
      | cons _ _=>exact aU h
      | nil =>
        have h':(lv != 1&&at4 S tg&&!isSet it&&kTg S tg tgt&&kI S (isTup tgt&&S.calm) ci it&&kB S lv b body)=true:=h;simp only [ak,bx] at h';obtain ⟨⟨⟨⟨⟨h1,hg⟩,h2⟩,h3⟩,h4⟩,h5⟩:=h';exact aDH (Q.l0 (bne_iff_ne.mp h1)) (aNR Q.si (fun z=>by rw [ak] at z;exact ⟨Q.si.cm z.2,ai5 z.1⟩) ci it h4) (aAL Q hg h3) (okB b Q body h5) (asU h2)
    | _=>exact aU h
  | .aoW ci tg b,X,S,ex,lv,Q,st,h=>by
    cases st with
    | For tgt it body el p =>
      cases el with
      | cons _ _=>exact aU h
      | nil =>
        have h':(lv != 1&&at4 S tg&&!isSet it&&kTg S tg tgt&&kI S (isTup tgt&&S.calm) ci it&&kB S lv b body)=true:=h;simp only [ak,bx] at h';obtain ⟨⟨⟨⟨⟨h1,hg⟩,h2⟩,h3⟩,h4⟩,h5⟩:=h';exact axQ (Q.l0 (bne_iff_ne.mp h1)) (aNS Q.si (fun z=>by rw [ak] at z;exact ⟨Q.si.cm z.2,ai5 z.1⟩) ci it h4) (aAL Q hg h3) (okB b Q body h5) (asU h2)
    | _=>exact aU h
  | .pass,X,S,ex,lv,Q,st,h=>by
    cases st with
    | Pass _=>exact aCN
    | _=>exact aU h
theorem okB:∀ (c:CB) {X:Cx} {S:SI} {ex:aO->aZ} {lv:Nat},a7E X S ex lv->∀ (st:List Stmt),kB S lv c st=true->a6Y X st (mB S.gl X.K ex c)
  | .nil,X,S,ex,lv,Q,st,h=>by
    cases st with
    | nil=>exact aIO
    | cons _ _=>exact aU h
  | .cons s .nil,X,S,ex,lv,Q,st,h=>by
    match st,h with
    | [],h=>exact aU h
    | [x],h =>
      have h':(kS S lv s x&&kB S lv .nil [])=true:=h;rw [ak] at h';exact aIP (okS s Q x h'.1)
    | x :: y :: ys,h =>
      have h':(kS S lv s x&&kB S lv .nil (y :: ys))=true:=h;rw [ak] at h';exact aU h'.2
  | .cons s (.cons s' r),X,S,ex,lv,Q,st,h=>by
    match st,h with
    | [],h=>exact aU h
    | x :: ys,h =>
      have h':(kS S lv s x&&kB S lv (.cons s' r) ys)=true:=h;rw [ak] at h';exact aCM (okS s Q x h'.1) (okB (.cons s' r) Q ys h'.2)
end
end L4
namespace L4
open PySem PySem.Spec PyProof.Rows L2
noncomputable def bV (R:j4):j4:=fun d G'=>∃ G0,Le G0 G'/\R d G0
noncomputable def zT (EX:aZ):aZ:=fun C G'=>∃ G0,Le G0 G'/\EX C G0
noncomputable def spD (n m:Nat) (tb:aZ->bJ):uX:=fun ds G R EX=>ds.length=m/\tb (zT EX) ⟨fun _ G'=>bV R .non G',bV R,fun _ _=>False,fun _ _=>False⟩ (aeT n ds) G
variable {G:Gp}
theorem bV.here {R:j4} {d:D} (h:R d G):bV R d G:=⟨G,.refl G,h⟩
theorem zT.here {R:aZ} {d:Addr} (h:R d G):zT R d G:=⟨G,.refl G,h⟩
theorem at7 {K:Fg} {EX:aZ} {E:XK} (h:UpX K EX E):UpX K (zT EX) E:=fun C H' G' g ⟨G0,l,q⟩=>h C H' G0 (g.le l) q
variable {qt:Bool}{P:Program}{mg:Str->Option Value}{base:Heap}{x qual:Str}{st:Stmt}{f:Addr}{fd:FuncData}{ps:List Str}
theorem ayC {w:World} {K:Fg} {N:List Str} {k:Nat} {tb:aZ->bJ} (F:yG K x qual st f fd) (S:bA N ps (bW st))
    (hbody:∀ (cdv:Value) (A:Around) (outer:List Env) (s:Shared) (H:Hp) (E:XK) (EX:aZ),jH qt k (A.deeper (envOfC qual (bW st) s.heap.objs.size f cdv))->UpX K EX E ->
      a6Y (cx1 qt P w K mg base N qual (bW st) f cdv A outer s H E) (gU st) (tb EX)):cM qt P w K mg base (oJ P w) (k+1) f fd ps (dB K (spD N.length ps.length tb)):=by
  refine (aCP F S hbody).imp fun vs H Q E ⟨ds,G,R,EX,r,g,⟨hl,q⟩,kk,hE⟩=>?_;exact ⟨ds,G,bV R,zT EX,r,g,⟨hl,q⟩,fun v H' d G' r1 g1 ⟨G0,l,q⟩=>kk v H' d G0 r1 (g1.le l) q,at7 hE⟩
noncomputable def GTs (P:Program) (w:World) (K:Fg) (mg:Str->Option Value) (base:Heap) (k:Nat) (x:Str):GT->Prop
  | .con d=>∃ u v,mg x=some u/\RelV v u/\∀ H,RD K H d v
  | .cls a=>mg x=some (.ref a)/\jf K a BMv "ValueError.__new__" = true/\(jd K a).isSome=true/\jh K (.ref a)=some (.type "type")/\iy K (.ref a) (.type "BaseException")=some true
  | .fn sp n qt=>∃ f fd ps,cM qt P w K mg base (oJ P w) k f fd ps (dB K sp)/\mg x=some (.ref f)/\jy K (.ref f)=true/\Binds K fd ps []
  | .bf b=>mg x=none/\bootBuiltins x=some (amK b)
  | .bt n=>mg x=none/\bootBuiltins x=some (.type n)
  | .kl C sp dd=>∃ j f fd ps ds dvs,j+1=k/\Mk K C f/\cM false P w K mg base (oJ P w) j f fd ps (dB K sp)/\mg x=some (.ref C)/\Binds K fd ps ds/\Vals dvs ds/\∀ H,cN K H dd dvs
  | .me C m sp dd=>∃ f fd ps ds dvs,Cls K C/\Meth K C m f/\cM false P w K mg base (oJ P w) k f fd ps (dB K sp)/\Binds K fd ps ds/\Vals dvs ds/\∀ H,cN K H dd dvs
  | .fl C f=>Cls K C/\oR K C f
noncomputable def aEV (sc:Scope) (x:Str):Bool:=match sc.names.lookup x with
  | some .local=>true
  | some .cell=>true
  | _=>false
noncomputable def aEW (sc:Scope) (x:Str):Bool:=match sc.names.lookup x with
  | some .local=>true
  | _=>false
noncomputable def aEX (sc:Scope) (x:Str):Bool:=match sc.names.lookup x with
  | some .globalImplicit=>true
  | _=>false
noncomputable def aEY (sc:Scope) (x:Str):Bool:=match sc.names.lookup x with
  | some .cell=>true
  | _=>false
variable {sc:Scope}
theorem ayD (h:aEY sc x=true):sc.names.lookup x=some .cell:=by
  unfold aEY at h;split at h
  . rename_i e;exact e
  . exact aU h
noncomputable def ae6 (S:SI) (sc:Scope):Bool:=(ji S.N.length).all (fun i=>match S.N[i]? with
    | none=>false
    | some x=>x != ("__debug__" : Str)&&x != ("__classdict__" : Str)&&(S.fl[i]? != some true || aEV sc x)&&(S.lc[i]? != some true || aEW sc x)&&(S.ce[i]? != some true || aEY sc x)) &&
  (ji S.gl.length).all (fun k=>match S.gl[k]? with
    | none=>false
    | some (y,_)=>(S.gv[k]? != some true || aEX sc y)&&y != ("__debug__" : Str)&&y != ("__name__" : Str))
theorem ayE (h:aEV sc x=true):Loc sc x:=by
  unfold aEV at h;split at h
  . rename_i e;exact .inl e
  . rename_i e;exact .inr e
  . exact aU h
theorem ayF (h:Loc sc x):Vis sc x:=h.elim .inl fun z => .inr (.inl z)
theorem ayG (h:aEW sc x=true):sc.names.lookup x=some .local:=by
  unfold aEW at h;split at h
  . rename_i e;exact e
  . exact aU h
theorem ayH (h:aEX sc x=true):sc.names.lookup x=some .globalImplicit:=by
  unfold aEX at h;split at h
  . rename_i e;exact e
  . exact aU h
variable {S:SI}
theorem a9N (h:ae6 S sc=true) {i:Nat} (e:S.N[i]?=some x) :
    (x == ("__debug__" : Str))=false/\(x == ("__classdict__" : Str))=false/\(S.fl[i]?=some true->Loc sc x)/\(S.lc[i]?=some true->sc.names.lookup x=some .local)/\(S.ce[i]?=some true->sc.names.lookup x=some .cell):=by
  unfold ae6 at h;rw [ak] at h;have hi:i < S.N.length:=(fj.mp e).1;have q:=iu.mp h.1 i (rm.mpr hi);rw [e] at q;simp only [ak,bne_iff_ne,ne_eq,zp] at q;obtain ⟨⟨⟨⟨q1,q2⟩,q3⟩,q4⟩,q5⟩:=q;refine ⟨beq_eq_false_iff_ne.mpr q1,beq_eq_false_iff_ne.mpr q2,fun z=>?_,fun z=>?_,fun z=>?_⟩
  . rcases q3 with q | q
    . exact absurd z q
    . exact ayE q
  . rcases q4 with q | q
    . exact absurd z q
    . exact ayG q
  . rcases q5 with q | q
    . exact absurd z q
    . exact ayD q
theorem ayI (h:ae6 S sc=true) {k:Nat} {g:GT} (e:S.gl[k]?=some (x,g)):(S.gv[k]?=some true->sc.names.lookup x=some .globalImplicit)/\(x == ("__debug__" : Str))=false/\x ≠ "__name__" := by
  unfold ae6 at h;rw [ak] at h;have q:=iu.mp h.2 k (rm.mpr (fj.mp e).1);rw [e] at q;simp only [ak,bne_iff_ne,ne_eq,zp] at q;exact ⟨fun z=>ayH (q.1.1.resolve_left fun n=>n z),beq_eq_false_iff_ne.mpr q.1.2,q.2⟩
theorem at8 {w:World} {K:Fg} {k:Nat} {c:CB} (F:yG K x qual st f fd) (hS:bA S.N ps (bW st))
    (hc:S.calm=!qt) (hv:ae6 S (bW st)=true) (hk:kB S 0 c (gU st)=true) (hg:∀ (j:Nat) (y:Str) (g:GT),S.gl[j]?=some (y,g)->GTs P w K mg base k y g) :
    cM qt P w K mg base (oJ P w) (k+1) f fd ps (dB K (spD S.N.length ps.length fun EX=>mB S.gl K (fun _=>EX) c)):=by
  refine ayC F hS fun cdv A outer s H E EX hr hE=>?_;refine okB c (X:=cx1 qt P w K mg base S.N qual (bW st) f cdv A outer s H E) (S:=S) (ex:=fun _=>EX) (lv:=0) ?_ (gU st) hk;refine ⟨⟨rfl,hS.nd,fun i y e1 e2=>?_,fun i y e1 e2 => .inl ((a9N hv e1).2.2.2.2 e2),fun j y g e=>?_,hr.units,fun z=>hc.symm.trans z,aMW hE⟩,fun i y e1 e2=>?_,fun i y e1 e2=>?_,fun _=>rfl,fun j y a e _=>?_,fun _=>own1,fun _ _=>aMX hE,rfl,rfl⟩
  . obtain ⟨a1,a2,a3,a4⟩:=a9N hv e1;exact ⟨ayF (a3 e2),a1,a2⟩
  . obtain ⟨a1,a2,a3⟩:=ayI hv e;have z:=hg j y g e;refine ⟨a1,a2,a3,?_⟩;cases g with
    | con d=>exact z
    | cls a=>exact ⟨z.1,z.2.1⟩
    | fn sp n q2 =>
      intro hz;obtain ⟨f',fd',ps',F',m',k',b'⟩:=z;refine ⟨k,f',fd',ps',F',⟨fun e=>hr.hd ?_,hr.dp,hr.un⟩,m',k',b'⟩;have hs:S.calm=true:=hz.resolve_left (by rw [e];decide);rw [hc] at hs;simpa using hs
    | bf b=>exact z
    | bt n=>exact z
    | kl C sp dd =>
      intro hs;obtain ⟨j',f',fd',ps',ds,dvs,rfl,q1,q2,q3,q4,q5,q6⟩:=z;rw [hc] at hs;exact ⟨j',f',fd',ps',ds,dvs,q1,q2,⟨fun _=>hr.hd (by simpa using hs),hr.dp,hr.un⟩,q3,q4,q5,q6⟩
    | me C m sp dd =>
      intro hs;obtain ⟨f',fd',ps',ds,dvs,q1,q2,q3,q4,q5,q6⟩:=z;rw [hc] at hs;exact ⟨k,f',fd',ps',ds,dvs,q1,q2,q3,⟨fun _=>hr.hd (by simpa using hs),hr.dp,hr.un⟩,q4,q5,q6⟩
    | fl C f=>exact z
  . exact (a9N hv e1).2.2.1 e2
  . exact (a9N hv e1).2.2.2.1 e2
  . have z:=hg j y _ e;exact z.2
end L4
namespace L4
open PySem PySem.Spec PyProof.Rows L2
variable {P:Str->GT->Prop}
theorem gln:∀ (j:Nat) (y:Str) (g:GT),([]:List (Str×GT))[j]?=some (y,g)->P y g:=fun j y g h=>by simp at h
theorem cO {x:Str} {g:GT} {l:List (Str×GT)} (h:P x g) (r:∀ (j:Nat) (y:Str) (g:GT),l[j]?=some (y,g)->P y g):∀ (j:Nat) (y:Str) (g':GT),((x,g) :: l)[j]?=some (y,g')->P y g'
  | 0,y,g',e=>by simp at e;obtain ⟨e1,e2⟩:=e;subst e1;subst e2;exact h
  | j+1,y,g',e=>r j y g' (by simpa using e)
section
variable {P:Program} {w:World} {K:Fg} {mg:Str->Option Value} {base:Heap} {k:Nat} {x:Str}
theorem gcI {z:Int} (h:∃ t,mg x=some (.int z t)):GTs P w K mg base k x (.con (.int z)):=by
  obtain ⟨t,h⟩:=h;exact ⟨_,.int z,h,⟨t,rfl⟩,fun _ => .int z⟩
end
theorem at9:bootBuiltins "range" = some (.type "range"):=by decide +kernel
end L4
namespace L4
open PySem PySem.Spec PyProof.Rows L2
variable {fd:FuncData}{ps:List Str}
theorem amP {K:Fg} (h:∀ us:List Value,us.length=ps.length->bindArgs fd ⟨us,[]⟩=pure (ps.zip us)):Binds K fd ps []:=Binds.all h
variable {T:Addr}{od:Option Addr}{n:Nat}{sl:Array (Option Value)}
theorem ayK {K:Fg} {oc u:Value} (e:K.lookup T=some ⟨oc,od,.seq #[u] n,sl⟩)
    (h:∀ us:List Value,us.length=ps.length->∃ k:Option (Array Value)->Sem (List (Str×Value)),fd.defaults = .ref T/\bindArgs fd ⟨us,[]⟩=seqItems? fd.defaults >>= k/\k (some #[u])=pure (ps.zip us)):Binds K fd ps []:=fun s us hK hl=>by
  rw [uw] at hl ⊢;obtain ⟨k,h0,h1,h2⟩:=h us hl;exact PySem.W.binds_K hK h0 e rfl h1 h2
theorem ayL {K:Fg} {oc u:Value} (e:K.lookup T=some ⟨oc,od,.seq #[u] n,sl⟩)
    (h:∀ us:List Value,us.length+1=ps.length->∃ k:Option (Array Value)->Sem (List (Str×Value)),fd.defaults = .ref T/\bindArgs fd ⟨us,[]⟩=seqItems? fd.defaults >>= k/\k (some #[u])=pure (ps.zip (us++[u]))):Binds K fd ps [u]:=fun s us hK hl=>by
  obtain ⟨k,h0,h1,h2⟩:=h us (by simpa using hl);exact PySem.W.binds_K hK h0 e rfl h1 h2
end L4
namespace L5
open PySem PySem.Spec PyProof.Rows L2 L4
noncomputable def onB (x:D) (f:Bool->Prop):Prop:=match x with
  | .bl k=>f k
  | _=>False
noncomputable def onI (x:D) (f:Int->Prop):Prop:=match x with
  | .int k=>f k
  | _=>False
theorem aEZ {k:Bool} {f:Bool->Prop}:onB (.bl k) f=f k:=rfl
theorem ayM {k:Int} {f:Int->Prop}:onI (.int k) f=f k:=rfl
noncomputable def a5X (xs:List D):Prop:=xs.length<=sizeLine
theorem aF0:a5X []=True:=eq_true (show 0<=sizeLine by decide)
variable {a0:D}
theorem aF1:a5X [a0]=True:=eq_true (show 1<=sizeLine by decide)
variable {a1:D}
theorem aF2:a5X [a0,a1]=True:=eq_true (show 2<=sizeLine by decide)
variable {a2:D}
theorem aF3:a5X [a0,a1,a2]=True:=eq_true (show 3<=sizeLine by decide)
variable {a3:D}
theorem aF4:a5X [a0,a1,a2,a3]=True:=eq_true (show 4<=sizeLine by decide)
theorem aF5 {a4:D}:a5X [a0,a1,a2,a3,a4]=True:=eq_true (show 5<=sizeLine by decide)
variable {i j:Int}{C p q:Addr}{d:D}{o:Option D}{n:Nat}{r:R3}{Q:Bool->Gp->Prop}{T:String}{xs ys ds:List D}{z:Str}{b:Bool}
section
variable {t u:bJ} {F:fX} {ρ:aO} {G:Gp} {R:j4} {te ta tb tc:cL} {tt tt':TT3} {tA:yH} {K:Fg}
theorem aAN:aR t u F ρ G=t { F with nx:=u F } ρ G:=rfl
theorem aF6:cT F ρ G=F.nx ρ G:=rfl
theorem aF7:cF te F ρ G=te ρ G fun _ G1=>F.nx ρ G1:=rfl
theorem aK4:d7 te F ρ G=te ρ G F.rt:=rfl
theorem aK5:gR tt t u F ρ G=tt ρ G fun b G1=>if b=true then t F ρ G1 else u F ρ G1:=rfl
theorem aAO {i:Nat}:eU i te F ρ G=te ρ G fun x G1=>F.nx (a5I ρ i x) G1:=rfl
theorem x_raise {EX:aO->aZ}:pL EX C tA F ρ G=tA ρ G fun ds G1=>a5X ds/\EX ρ C G1:=rfl
theorem aK6 {i:Nat} {bd:(aO->aZ)->bJ}:agV K C i bd t F ρ G=bd (fun ρ1 C' G1=>iy K (.ref C') (.ref C)=some true/\∀ x,G1 x=none->t { nx:=fun ρ2 G2=>F.nx (rB ρ2 i) G2,rt:=F.rt,bk:=fun ρ2 G2=>F.bk (rB ρ2 i) G2,ct:=fun ρ2 G2=>F.ct (rB ρ2 i) G2 } (a5I ρ1 i (.ref x)) (aL G1 x (.exn C'))) F ρ G:=rfl
theorem x_c:bC d ρ G R=R d G:=rfl
theorem atA:aB 0 (some d :: ρ) G R=R d G:=rfl
theorem atB:aB (n+1) (o :: ρ) G R=aB n ρ G R:=rfl
theorem akS:a5I (o :: ρ) 0 d=some d :: ρ:=rfl
theorem akT:a5I (o :: ρ) (n+1) d=o :: a5I ρ n d:=rfl
theorem atD:rB (o :: ρ) 0=none :: ρ:=rfl
theorem atE:rB (o :: ρ) (n+1)=o :: rB ρ n:=rfl
theorem aK7:aG r ta tb ρ G R=ta ρ G fun x G1=>tb ρ G1 fun y G2=>r x y G2 R:=rfl
theorem aF8:bB te ρ G Q=te ρ G fun x G1=>onB x fun k=>Q k G1:=rfl
theorem ayN {r':R3}:v8 r r' ta tb tc ρ G R=ta ρ G fun x G1=>tb ρ G1 fun y G2=>r x y G2 fun z G3=>onB z fun k=>if k=true then tc ρ G3 fun w G4=>r' y w G4 R else R (.bl false) G3:=by
  unfold v8;congr 1;funext x G1;congr 1;funext y G2;congr 1;funext z G3;cases z with
  | bl k=>cases k <;> rfl
  | _=>rfl
theorem aK8:adH tt tt' ρ G Q=tt ρ G fun c G1=>if c=true then tt' ρ G1 Q else Q false G1:=rfl
theorem aNV:aa2 tt tt' ρ G Q=tt ρ G fun c G1=>if c=true then Q true G1 else tt' ρ G1 Q:=rfl
theorem aK9:wO tt ρ G Q=tt ρ G fun c G1=>Q (!c) G1:=rfl
theorem aF9:a3R ta tb ρ G R=ta ρ G fun x G1=>onB x fun k=>if k=true then tb ρ G1 R else R (.bl false) G1:=by
  unfold a3R;congr 1;funext x G1;cases x with
  | bl k=>cases k <;> rfl
  | _=>rfl
theorem aFA:aeV ta ρ G R=ta ρ G fun x G1=>onB x fun k=>R (.bl (!k)) G1:=rfl
theorem aKA:agX ta ρ G R=ta ρ G fun x G1=>onI x fun k=>R (.int (-k)) G1:=rfl
variable {Q:List D->Gp->Prop}
theorem aKB:aD ρ G Q=Q [] G:=rfl
theorem atF:aA te tA ρ G Q=te ρ G fun x G1=>tA ρ G1 fun xs G2=>Q (x :: xs) G2:=rfl
theorem aAP:tD tA ρ G R=tA ρ G fun xs G1=>a5X xs/\R (.tup xs) G1:=rfl
theorem aKC:rO tA ρ G R=tA ρ G fun xs G1=>a5X xs/\∀ p,G1 p=none->R (.ref p) (aL G1 p (.lst xs)):=rfl
theorem aKD:vY ρ G R=∀ p,G p=none->R (.ref p) (aL G p (.bQ false [])):=rfl
theorem x_call {sp:uX} {ex:aO->aZ}:aV sp ex tA ρ G R=tA ρ G fun ds G1=>sp ds G1 R (ex ρ):=rfl
theorem aNW {r:List D->Gp->j4->Prop}:lX r tA ρ G R=tA ρ G fun xs G1=>r xs G1 R:=rfl
theorem x_m {r:RM3}:tM3 T r te tA ρ G R=te ρ G fun x G1=>ah1 T G1 x/\tA ρ G1 fun xs G2=>r x xs G2 R:=rfl
theorem ayO:ah1 "list" G (.ref p)=((bY G p).isSome=true):=by unfold ah1;simp
theorem atG:fU (.int i) (.int j) G R=R (.int (i+j)) G:=rfl
theorem aKE:adI (.int i) (.int j) G R=R (.int (i - j)) G:=rfl
theorem aAQ:a0B (.int i) (.int j) G R=(apZ i j/\R (.int (i * j)) G):=rfl
theorem aFB:fL (.int i) (.int j) G R=(aBM i j/\R (.int (i / j)) G):=rfl
theorem aKF:dJ (.int i) (.int j) G R=(0 < j/\R (.int (i % j)) G):=rfl
theorem aKG:adJ (.int i) (.int j) G R=(aBN i j/\R (.int (i ^ j.toNat)) G):=rfl
theorem x_lt:ao5 (.int i) (.int j) G R=R (.bl (decide (i < j))) G:=rfl
theorem aNX:aqH (.int i) (.int j) G R=R (.bl (decide (j < i))) G:=rfl
theorem aNY:aqI (.int i) (.int j) G R=R (.bl (decide (i<=j))) G:=rfl
theorem ayP:a5L (.int i) (.int j) G R=R (.bl (i == j)) G:=by
  show (aQ 20 (.int i)=true/\aQ 20 (.int j)=true/\_)=_;simp [aQ,eqP]
theorem ayQ:a8V (.int i) (.int j) G R=R (.bl (!(i == j))) G:=by
  show (aQ 20 (.int i)=true/\aQ 20 (.int j)=true/\_)=_;simp [aQ,eqP]
theorem ayR {i j:Str}:a5L (.str i) (.str j) G R=R (.bl (i == j)) G:=by
  show (aQ 20 (.str i)=true/\aQ 20 (.str j)=true/\_)=_;simp [aQ,eqP]
theorem ayS {i j:Str}:a8V (.str i) (.str j) G R=R (.bl (!(i == j))) G:=by
  show (aQ 20 (.str i)=true/\aQ 20 (.str j)=true/\_)=_;simp [aQ,eqP]
theorem ayT:a8V (.tup xs) (.tup ys) G R=(aQ 20 (.tup xs)=true/\aQ 20 (.tup ys)=true/\R (.bl (!eqP (.tup xs) (.tup ys))) G):=rfl
theorem ayU:a0E [.str z] G R=(z.length<=sizeLine/\R (.int z.length) G):=rfl
theorem ayV:a0E [.tup ds] G R=R (.int ds.length) G:=rfl
theorem afH (h:bY G q=some ds):a0E [.ref q] G R=R (.int ds.length) G:=by unfold a0E;simp only [h]
theorem ayW:adP [.bl b] G R=R (.int (if b then 1 else 0)) G:=rfl
theorem akU (h:atI xs i=some d):iQ (.tup xs) (.int i) G R=R d G:=by unfold iQ;simp only [h]
theorem aaZ (e:bY G p=some xs) (h:atI xs i=some d):iQ (.ref p) (.int i) G R=R d G:=by unfold iQ;simp only [e,h]
theorem ayX:ao7 .non .non G R=R (.bl true) G:=rfl
theorem aoY:aa3 .non .non G R=R (.bl false) G:=rfl
theorem ai6:aF K [.non,.ty "int"] G R=R (.bl false) G:=by
  show ("int" ∈ jB/\R (.bl (L2.subB "NoneType" "int")) G)=_;rw [show L2.subB "NoneType" "int" = false from by decide];simp [jB]
theorem afI:aF K [.non,.ty "bool"] G R=R (.bl false) G:=by
  show ("bool" ∈ jB/\R (.bl (L2.subB "NoneType" "bool")) G)=_;rw [show L2.subB "NoneType" "bool" = false from by decide];simp [jB]
theorem acM:aF K [.non,.ty "tuple"] G R=R (.bl false) G:=by
  show ("tuple" ∈ jB/\R (.bl (L2.subB "NoneType" "tuple")) G)=_;rw [show L2.subB "NoneType" "tuple" = false from by decide];simp [jB]
theorem akV:aF K [(.bl b),.ty "int"] G R=R (.bl true) G:=by
  show ("int" ∈ jB/\R (.bl (L2.subB "bool" "int")) G)=_;rw [show L2.subB "bool" "int" = true from by decide];simp [jB]
theorem ai7:aF K [(.bl b),.ty "bool"] G R=R (.bl true) G:=by
  show ("bool" ∈ jB/\R (.bl (L2.subB "bool" "bool")) G)=_;rw [show L2.subB "bool" "bool" = true from by decide];simp [jB]
theorem afJ:aF K [(.bl b),.ty "tuple"] G R=R (.bl false) G:=by
  show ("tuple" ∈ jB/\R (.bl (L2.subB "bool" "tuple")) G)=_;rw [show L2.subB "bool" "tuple" = false from by decide];simp [jB]
theorem ai8:aF K [(.int i),.ty "int"] G R=R (.bl true) G:=by
  show ("int" ∈ jB/\R (.bl (L2.subB "int" "int")) G)=_;rw [show L2.subB "int" "int" = true from by decide];simp [jB]
theorem afK:aF K [(.int i),.ty "bool"] G R=R (.bl false) G:=by
  show ("bool" ∈ jB/\R (.bl (L2.subB "int" "bool")) G)=_;rw [show L2.subB "int" "bool" = false from by decide];simp [jB]
theorem acN:aF K [(.int i),.ty "tuple"] G R=R (.bl false) G:=by
  show ("tuple" ∈ jB/\R (.bl (L2.subB "int" "tuple")) G)=_;rw [show L2.subB "int" "tuple" = false from by decide];simp [jB]
theorem ai9:aF K [(.str z),.ty "int"] G R=R (.bl false) G:=by
  show ("int" ∈ jB/\R (.bl (L2.subB "str" "int")) G)=_;rw [show L2.subB "str" "int" = false from by decide];simp [jB]
theorem afL:aF K [(.str z),.ty "bool"] G R=R (.bl false) G:=by
  show ("bool" ∈ jB/\R (.bl (L2.subB "str" "bool")) G)=_;rw [show L2.subB "str" "bool" = false from by decide];simp [jB]
theorem acO:aF K [(.str z),.ty "tuple"] G R=R (.bl false) G:=by
  show ("tuple" ∈ jB/\R (.bl (L2.subB "str" "tuple")) G)=_;rw [show L2.subB "str" "tuple" = false from by decide];simp [jB]
theorem aiA:aF K [(.tup xs),.ty "int"] G R=R (.bl false) G:=by
  show ("int" ∈ jB/\R (.bl (L2.subB "tuple" "int")) G)=_;rw [show L2.subB "tuple" "int" = false from by decide];simp [jB]
theorem afM:aF K [(.tup xs),.ty "bool"] G R=R (.bl false) G:=by
  show ("bool" ∈ jB/\R (.bl (L2.subB "tuple" "bool")) G)=_;rw [show L2.subB "tuple" "bool" = false from by decide];simp [jB]
theorem acP:aF K [(.tup xs),.ty "tuple"] G R=R (.bl true) G:=by
  show ("tuple" ∈ jB/\R (.bl (L2.subB "tuple" "tuple")) G)=_;rw [show L2.subB "tuple" "tuple" = true from by decide];simp [jB]
theorem sE {C':Addr} (h:G q=some (.exn C)) (e:ExC K C) (k:cj K (.ref C) (.ref C')=some b) (z:R (.bl b) G):aF K [.ref q,.ref C'] G R:=by
  unfold aF;simp only [exD,h];exact ⟨b,e,k,z⟩
theorem ayY {n:String} (h:G q=some (.exn C)) (e:ExC K C) (k:cj K (.ref C) (.type n)=some b) (z:R (.bl b) G):aF K [.ref q,.ty n] G R:=by
  unfold aF;simp only [exD,tyD,h];exact ⟨b,e,k,z⟩
end
variable {G:Gp}
theorem wZ (h:G p=some (.lst xs)):bY G p=some xs:=by unfold bY;rw [h]
theorem a0J (h:G p=some (.rol xs)):bY G p=some xs:=by unfold bY;rw [h]
theorem c7:bY (aL G p (.lst xs)) p=some xs:=wZ aH
theorem ayZ {R:j4} {G':Gp} (h:R d G) (l:Le G G'):bV R d G':=⟨G,l,h⟩
theorem afN {P Q:Prop} (h1:b=true->P) (h2:b=false->Q):if b=true then P else Q:=by
  cases b
  . exact h2 rfl
  . exact h1 rfl
noncomputable def kn (G:Gp) (d:D):Prop:=(tyD G d).isSome=true
theorem atH (h:kn G (.ref q)):tyD G (.ref q)=some "list" ∨ tyD G (.ref q)=some "dict" := by
  unfold kn at h
  have e:tyD G (.ref q)=(match G q with
    | some (.lst _)=>some "list"
    | some (.rol _)=>some "list"
    | some (.bQ _ _)=>some "dict"
    | _=>none):=rfl
  rw [e] at h ⊢;split at h
  . exact .inl rfl
  . exact .inl rfl
  . exact .inr rfl
  . simp at h
theorem atJ {b:List D}:kn G (.tup b):=rfl
variable {a:D}
section
variable {G:Gp} {R:j4} {K:Fg} {q:Addr}
theorem atL {x:D} {n:String} (e:tyD G x=some T) (hn:n∈jB):aF K [x,.ty n] G R=R (.bl (L2.subB T n)) G:=by
  show (match tyD G x with
    | some T=>n∈jB/\R (.bl (L2.subB T n)) G
    | none=>_)=_
  rw [e];exact propext ⟨fun h=>h.2,fun h=>⟨hn,h⟩⟩
theorem akW (h:kn G (.ref q)):aF K [.ref q,.ty "int"] G R=R (.bl false) G:=by
  rcases atH h with e | e <;> rw [atL e (by decide)] <;> rfl
theorem a5Y (h:kn G (.ref q)):aF K [.ref q,.ty "tuple"] G R=R (.bl false) G:=by
  rcases atH h with e | e <;> rw [atL e (by decide)] <;> rfl
theorem at0 {α:Type} {a:α} {xs:List α}:atI (a :: xs) 0=some a:=by
  unfold atI ixN;simp
theorem atS {α:Type} {a:α} {xs:List α}:atI (a :: xs) ((n+1:Nat):Int)=atI xs (n:Int):=by
  unfold atI ixN;have h0:(0:Int)<=((n+1:Nat):Int):=by omega
  have h1:(0:Int)<=(n:Int):=by omega
  rw [if_pos h0,if_pos h1];by_cases h:n < xs.length
  . have a1:((n+1:Nat):Int) < ((a :: xs).length:Int):=by simp;omega
    have a2:(n:Int) < (xs.length:Int):=by omega
    rw [if_pos a1,if_pos a2];simp
  . have a1:¬ ((n+1:Nat):Int) < ((a :: xs).length:Int):=by simp;omega
    have a2:¬ (n:Int) < (xs.length:Int):=by omega
    rw [if_neg a1,if_neg a2];rfl
theorem a3Y {α:Type} {xs:List α}:atI xs (n:Int)=xs[n]?:=by
  unfold atI ixN;rw [if_pos (by omega)];by_cases h:n < xs.length
  . rw [if_pos (by omega)];simp
  . rw [if_neg (by omega)];simp at h;simp [h]
theorem amQ:iQ (.tup (a :: xs)) (.int 0) G R=R a G:=akU at0
variable {b:D}
theorem amR:iQ (.tup (a :: b :: xs)) (.int 1) G R=R b G:=akU (i:=((1:Nat):Int)) (by rw [atS,a3Y];rfl)
theorem az0 {c:D}:iQ (.tup (a :: b :: c :: xs)) (.int 2) G R=R c G:=akU (i:=((2:Nat):Int)) (by rw [atS,a3Y];rfl)
end
section
variable {G:Gp} {R:j4} {K:Fg} {q:Addr}
end
section
variable {G:Gp} {R:j4} {K:Fg}
theorem ab0 {a b:Addr} (h1:bY G a=some xs) (h2:bY G b=some ys) (s1:xs.all (aQ 20)=true) (s2:ys.all (aQ 20)=true):a5L (.ref a) (.ref b) G R=R (.bl (rY xs ys)) G:=by
  show eqG G (.ref a) (.ref b) (fun b=>R (.bl b) G)=_;unfold eqG;simp only [h1,h2,s1,s2,true_and]
end
section
variable {G:Gp} {R:j4} {K:Fg} {i j:Int}
theorem aFC (h:-18446744073709551616 < i/\i < 18446744073709551616):a0B (.int i) (.int j) G R=R (.int (i * j)) G:=by
  rw [aAQ];exact propext ⟨fun z=>z.2,fun z=>⟨.inl ⟨by have:=h.1;omega,by have:=h.2;omega⟩,z⟩⟩
theorem aFD (h:-18446744073709551616 < j/\j < 18446744073709551616):a0B (.int i) (.int j) G R=R (.int (i * j)) G:=by
  rw [aAQ];exact propext ⟨fun z=>z.2,fun z=>⟨.inr ⟨by have:=h.1;omega,by have:=h.2;omega⟩,z⟩⟩
theorem amS (h:0 < j/\j < 1073741824):fL (.int i) (.int j) G R=R (.int (i / j)) G:=by
  rw [aFB];exact propext ⟨fun z=>z.2,fun z=>⟨h,z⟩⟩
theorem atM (h:0 < j):dJ (.int i) (.int j) G R=R (.int (i % j)) G:=by
  rw [aKF];exact propext ⟨fun z=>z.2,fun z=>⟨h,z⟩⟩
theorem aFE (h:0<=j/\j<=1000000/\i.natAbs < 18446744073709551616):adJ (.int i) (.int j) G R=R (.int (i ^ j.toNat)) G:=by
  rw [aKG];exact propext ⟨fun z=>z.2,fun z=>⟨⟨h.1,h.2.1,h.2.2⟩,z⟩⟩
end
variable {P:D->Prop}
section
variable {G:Gp} {R:j4} {K:Fg} {i j:Int}
theorem atN {α:Type} {xs:List α} (h0:0<=i) (h1:i < (xs.length:Int)):∃ d,atI xs i=some d/\d∈xs:=by
  obtain ⟨n,rfl⟩:=Int.eq_ofNat_of_zero_le h0;have hn:n < xs.length:=by omega
  exact ⟨xs[n],by rw [a3Y];simp [hn],wg hn⟩
theorem a3Z (e:bY G p=some xs) (h0:0<=i) (h1:i < (xs.length:Int)) (h:∀ d∈xs,R d G):iQ (.ref p) (.int i) G R:=by
  obtain ⟨d,h2,h3⟩:=atN h0 h1;rw [aaZ e h2];exact h d h3
theorem all_nil:∀ d∈([]:List D),P d:=fun _ h=>by simp at h
theorem all_cons {r:List D} (h1:P a) (h2:∀ d∈r,P d):∀ d∈a :: r,P d:=fun d h=>by
  rcases ig.mp h with rfl | h
  . exact h1
  . exact h2 d h
end
section
variable {P Q:Prop} {b c:Bool} {α:Type} {a:α} {l:List α}
theorem akX:(True/\P)=P:=true_and P
theorem atO:((!b)=true)=(b=false):=by cases b <;> simp
theorem aoZ:(if True then P else Q)=P:=if_true ..
theorem akY:(if False then P else Q)=Q:=if_false ..
theorem aKH:(false=true)=False:=by simp
theorem aKI:(true=false)=False:=by simp
theorem akZ:(a :: l).length=l.length+1:=ju
theorem ap0:([]:List α).length=0:=rfl
theorem ap1 {β:Type} {f:α->β}:(l.map f).length=l.length:=dh ..
end
end L5
namespace L6
open PySem PySem.Spec PyProof.Rows L2 L4 L5
noncomputable def aFF (x:D) (G:Gp) (Q:Src->Gp->Prop):Prop:=match x with
  | .ref p=>(match bY G p with
    | some xs=>Q (.lst p xs) G
    | none=>False)
  | .tup xs=>Q (.imm xs) G
  | .str z=>Q (.imm (signs z)) G
  | _=>False
noncomputable def atP (x:D) (G:Gp) (Q:Src->Gp->Prop):Prop:=match x with
  | .ref p=>(match bY G p with
    | some xs=>Q (.lst p xs) G
    | none=>False)
  | .str z=>Q (.imm (signs z)) G
  | .tup xs=>xs.all scD=true/\∀ a,(G a=none∨G a=some (.tpl xs))->Q (.tpl a xs) (aL G a (.tpl xs))
  | _=>False
noncomputable def aAR (xs:List D) (G:Gp) (Q:Src->Gp->Prop):Prop:=match xs with
  | [.int j]=>-(2 ^ 62)<=j/\j < 2 ^ 62/\Q (.imm (acK 0 j)) G
  | _=>False
section
variable {te:cL} {ta:yH} {ρ:aO} {G:Gp} {Q:Src->Gp->Prop} {p:Addr} {xs:List D} {z:Str} {i j:Int}
theorem az1:a71 te ρ G Q=te ρ G fun x G1=>aFF x G1 Q:=rfl
theorem aKJ:awX te ρ G Q=te ρ G fun x G1=>atP x G1 Q:=rfl
theorem aFG:a72 ta ρ G Q=ta ρ G fun xs G1=>aAR xs G1 Q:=rfl
theorem ab1 (h:bY G p=some xs):aFF (.ref p) G Q=Q (.lst p xs) G:=by unfold aFF;simp only [h]
theorem ap2 (h:bY G p=some xs):atP (.ref p) G Q=Q (.lst p xs) G:=by unfold atP;simp only [h]
theorem az2 (h:-4611686018427387904<=j/\j < 4611686018427387904):aAR [.int j] G Q=Q (.imm (acK 0 j)) G:=by
  show (_/\_/\_)=_;exact propext ⟨fun z=>z.2.2,fun z=>⟨by omega,by omega,z⟩⟩
end
noncomputable def amT (dv:D->Option (List D)) (src:Src) (tc:TT3) (te:cL) (ρ:aO) (G1:Gp) (R:j4):Prop:=src.items.length < sizeLine/\∀ p,G1 p=none->∃ P:Nat->List D->Gp->Prop,P 0 [] (aL G1 p (.lst [])) /\
  (∀ k ds G,k<=src.items.length->P k ds G->src.ok G/\G p=some (.lst ds)/\ds.length<=k) /\
  (∀ k d ds G,src.items[k]?=some d->P k ds G->∃ ys,dv d=some ys/\tc (ys.map some++ρ) G fun b G2=>if b=true then te (ys.map some++ρ) G2 fun y G3=>G3 p=some (.lst ds)/\P (k+1) (ds++[y]) (aL G3 p (.lst (ds++[y]))) else P (k+1) ds G2) /\
  ∀ ds G,P src.items.length ds G->∃ G0,Le G0 G/\R (.ref p) G0
variable {ti:TI3}{tc:TT3}{te:cL}{ρ:aO}{G:Gp}{R:j4}
theorem aFH {dv:D->Option (List D)}:af2 dv ti tc te ρ G R=ti ρ G fun src G1=>amT dv src tc te ρ G1 R:=rfl
variable {G':Gp}{p:Addr}{xs:List D}
theorem yQ (l:Le G G') (h:bY G p=some xs):bY G' p=some xs:=by
  unfold bY at h ⊢;split at h
  . rename_i e;rw [l _ _ e];exact h
  . rename_i e;rw [l _ _ e];exact h
  . cases h
variable {src:Src}
theorem aKK (l:Le G G') (h:src.ok G):src.ok G':=by
  cases src with
  | lst p xs=>exact yQ l h
  | imm xs=>trivial
  | zip p q xs ys=>exact ⟨yQ l h.1,yQ l h.2⟩
  | itm p o kvs=>exact l _ _ h
  | key p o t kvs=>exact l _ _ h
  | tpl p xs=>exact l _ _ h
  | enu p xs=>exact l _ _ h
theorem aFI {o o':GO} (l:Le (aL G p o) G'):Le (aL G p o') (aL G' p o'):=fun a u e=>by
  by_cases h:a=p
  . subst h;rw [aH] at e ⊢;exact e
  . rw [bD h] at e ⊢;exact l a u (by rw [bD h];exact e)
theorem atQ {dv:D->Option (List D)} (v:D->List D) (c:D->Bool) (f:D->D) (hl:src.items.length < sizeLine) (hok:src.ok G) (hv:∀ d∈src.items,dv d=some (v d))
    (hc:∀ d∈src.items,∀ G',Le G G'->∀ Q:Bool->Gp->Prop,(∀ G'',Le G' G''->Q (c d) G'')->tc ((v d).map some++ρ) G' Q)
    (he:∀ d∈src.items,c d=true->∀ G',Le G G'->∀ Q:D->Gp->Prop,(∀ G'',Le G' G''->Q (f d) G'')->te ((v d).map some++ρ) G' Q)
    (h:∀ p,G p=none->R (.ref p) (aL G p (.lst ((src.items.filter c).map f)))):amT dv src tc te ρ G R:=by
  refine ⟨hl,fun p hp=>⟨fun k ds G'=>ds=((src.items.take k).filter c).map f/\Le (aL G p (.lst ds)) G',⟨rfl,.refl _⟩,fun k ds G' hk ⟨e,l⟩=>?_,fun k d ds G' hd ⟨e,l⟩=>?_,fun ds G' ⟨e,l⟩=>?_⟩⟩
  . refine ⟨aKK ((Le.new hp).trans l) hok,l p _ aH,?_⟩;rw [e,dh];exact jj (vo _ _) (by rw [yw];omega)
  . have hm:d∈src.items:=je hd
    have ht:src.items.take (k+1)=src.items.take k++[d]:=by
      rw [yd,hd];rfl
    refine ⟨v d,hv d hm,hc d hm G' ((Le.new hp).trans l) _ fun G2 l2=>?_⟩;cases hcd:c d with
    | true =>
      rw [if_pos rfl];refine he d hm hcd G2 (((Le.new hp).trans l).trans l2) _ fun G3 l3=>?_;have l4:=(l.trans l2).trans l3;refine ⟨l4 p _ aH,?_,aFI l4⟩;rw [ht,List.filter_append,jk,← e];simp [hcd]
    | false =>
      rw [if_neg (by decide)];refine ⟨?_,l.trans l2⟩;rw [ht,List.filter_append,jk,← e];simp [hcd]
  . rw [za] at e;subst e;exact ⟨_,l,h p hp⟩
theorem a9O (c:D->Bool) (f:D->D) (hl:src.items.length < sizeLine) (hok:src.ok G)
    (hc:∀ d∈src.items,∀ G',Le G G'->∀ Q:Bool->Gp->Prop,(∀ G'',Le G' G''->Q (c d) G'')->tc (some d :: ρ) G' Q)
    (he:∀ d∈src.items,c d=true->∀ G',Le G G'->∀ Q:D->Gp->Prop,(∀ G'',Le G' G''->Q (f d) G'')->te (some d :: ρ) G' Q)
    (h:∀ p,G p=none->R (.ref p) (aL G p (.lst ((src.items.filter c).map f)))):amT akC src tc te ρ G R:=atQ (fun d=>[d]) c f hl hok (fun _ _=>rfl) hc he h
theorem comp_map (f:D->D) (hl:src.items.length < sizeLine) (hok:src.ok G)
    (he:∀ d∈src.items,∀ G',Le G G'->∀ Q:D->Gp->Prop,(∀ G'',Le G' G''->Q (f d) G'')->te (some d :: ρ) G' Q)
    (h:∀ p,G p=none->R (.ref p) (aL G p (.lst (src.items.map f)))):amT akC src af0 te ρ G R :=
  a9O (fun _=>true) f hl hok (fun d _ G' _ Q h=>h G' (.refl _)) (fun d hd _=>he d hd) fun p hp=>by
    have:src.items.filter (fun _=>true)=src.items:=a0a.mpr fun _ _=>rfl;rw [this];exact h p hp
noncomputable def atR (src:Src) (tg:TG3) (tb:bJ) (F:fX) (ρ:aO) (G1:Gp):Prop:=∃ P:Nat->aO->Gp->Prop,P 0 ρ G1/\(∀ k ρ G,k<=src.items.length->P k ρ G->src.ok G) /\
  (∀ k d ρ G,src.items[k]?=some d->P k ρ G->tg d ρ fun ρ2=>tb { F with nx:=P (k+1),ct:=P (k+1),bk:=F.nx } ρ2 G)/\∀ ρ G,P src.items.length ρ G->F.nx ρ G
variable {tg:TG3}{tb:bJ}{F:fX}
theorem aFJ:aaE ti tg tb F ρ G=ti ρ G fun src G1=>atR src tg tb F ρ G1:=rfl
variable {i:Nat}{d:D}{Q:aO->Prop}
theorem az3:a3U i d ρ Q=Q (a5I ρ i d):=rfl
variable {is:List Nat}{ds:List D}
theorem afO (h:ds.length=is.length):aaD is (.tup ds) ρ Q=Q (a8B ρ is ds):=propext ⟨fun z=>z.2,fun z=>⟨h,z⟩⟩
theorem amU:a8B ρ is []=ρ:=by cases is <;> rfl
theorem afP:a8B ρ (i :: is) (d :: ds)=a8B (a5I ρ i d) is ds:=rfl
variable {j:Int}
theorem atU (P:Nat->aO->Gp->Prop) (h0:P 0 ρ G)
    (hb:∀ (k:Nat) ρ G,(k:Int) < j->P k ρ G->tg (.int k) ρ fun ρ2=>tb { F with nx:=P (k+1),ct:=P (k+1),bk:=F.nx } ρ2 G) (he:∀ ρ G,P j.toNat ρ G->F.nx ρ G):atR (.imm (acK 0 j)) tg tb F ρ G:=by
  have hlen:(Src.imm (acK 0 j)).items.length=j.toNat:=by simp [Src.items,acK]
  refine ⟨P,h0,fun _ _ _ _ _=>trivial,fun k d ρ G hd p=>?_,fun ρ G p=>he ρ G (hlen ▸ p)⟩;have hk:k < j.toNat:=by rw [← hlen];exact (fj.mp hd).1
  have e:d = .int k:=by
    have:(acK 0 j)[k]?=some d:=hd;unfold acK at this;rw [qg,List.getElem?_range (by omega)] at this;simp at this;exact this.symm
  subst e;exact hb k ρ G (by omega) p
variable {q:Addr}
theorem atV (P:Nat->aO->Gp->Prop) (h0:P 0 ρ G) (hs:∀ k ρ G,P k ρ G->bY G q=some xs)
    (hb:∀ k d ρ G,xs[k]?=some d->P k ρ G->tg d ρ fun ρ2=>tb { F with nx:=P (k+1),ct:=P (k+1),bk:=F.nx } ρ2 G) (he:∀ ρ G,P xs.length ρ G->F.nx ρ G):atR (.lst q xs) tg tb F ρ G :=
  ⟨P,h0,fun k ρ G _ p=>hs k ρ G p,hb,he⟩
section
variable {G:Gp} {R:j4}
variable {i:Int}
theorem aKL:af4 [.int i,.int j] G R=R (.int (if j < i then j else i)) G:=rfl
theorem aKM:af3 [.int i,.int j] G R=R (.int (if i < j then j else i)) G:=rfl
theorem aKN {b:Addr} {es:List D} (h:G p=some (.lst ds)) (h2:G b=some (.lst es)) (hl:ds.length+es.length<=sizeLine):fU (.ref p) (.ref b) G R=∀ q,G q=none->R (.ref q) (aL G q (.lst (ds++es))):=by
  unfold fU;simp only [h,h2,hl,true_and]
end
section
variable {G:Gp} {R:j4} {F:fX} {ρ:aO}
theorem aFK:aaF is te F ρ G=te ρ G fun d G1=>aaD is d ρ fun ρ2=>F.nx ρ2 G1:=rfl
theorem aiB:∀ ns ms:List Int,ns.map D.int=ms.map D.int->ns=ms
  | [],[],_=>rfl
  | [],_ :: _,e=>by cases e
  | _ :: _,[],e=>by cases e
  | n :: ns,m :: ms,e=>by
    simp only [dj,List.cons.injEq] at e;obtain ⟨e1,e2⟩:=e;cases e1;rw [aiB ns ms e2]
theorem aAS {ns:List Int} (h:bY G q=some (ns.map D.int)):ah9 [.ref q] G R=R (.int ns.sum) G:=by
  refine propext ⟨fun z=>?_,fun z=>?_⟩
  . have z':(match bY G q with
      | some ds=>∃ ns:List Int,ds=ns.map D.int/\R (.int ns.sum) G
      | none=>False):=z
    rw [h] at z';obtain ⟨ms,e,r⟩:=z';rw [aiB ns ms e];exact r
  . show (match bY G q with
      | some ds=>∃ ns:List Int,ds=ns.map D.int/\R (.int ns.sum) G
      | none=>False)
    rw [h];exact ⟨ns,rfl,z⟩
end
end L6
namespace L7
open PySem PySem.Spec PyProof.Rows L2 L4 L5 L6
section
variable {ρ:aO} {G:Gp} {R:j4} {F:fX} {p:Addr}
theorem aKO {i:Nat} {t:bJ}:am7 i t F ρ G=t { nx:=fun ρ G=>F.nx (rB ρ i) G,rt:=F.rt,bk:=fun ρ G=>F.bk (rB ρ i) G,ct:=fun ρ G=>F.ct (rB ρ i) G } (rB ρ i) G:=rfl
theorem aFL:a5N ρ G R=∀ p,G p=none->R (.ref p) (aL G p (.bQ true [])):=rfl
theorem aFM {to ti tv:cL}:a3V to ti tv F ρ G=tv ρ G fun v G1=>to ρ G1 fun x G2=>ti ρ G2 fun y G3=>am3 x y v F ρ G3:=rfl
end
end L7
namespace L8
open PySem PySem.Spec PyProof.Rows L2 L4 L5 L6 L7
variable {ta to:cL}{d y:D}{sp:uX}{dd:List D}{EX:aO->aZ}{kvs:List (DK×D)}
section
variable {ρ:aO} {G:Gp} {R:j4} {F:fX} {p C:Addr} {f m:Str} {fs:List (Str×D)}
theorem aKP:lU C ta f ρ G R=ta ρ G fun x G1=>arI C f x G1 R:=rfl
theorem jL (h:G p=some (.ins C fs)) (e:fs.lookup f=some d):arI C f (.ref p) G R=R d G:=by
  unfold L2.arI;simp only [h,e];exact propext ⟨fun z=>z.2,fun z=>⟨trivial,z⟩⟩
theorem aFN {tv:cL}:a75 C ta tv f F ρ G=tv ρ G fun y G1=>ta ρ G1 fun x G2=>ahC C f x y F ρ G2:=rfl
theorem afQ (h:G p=some (.ins C fs)) (hl:fs.length < 1000):ahC C f (.ref p) y F ρ G=F.nx ρ (aL G p (.ins C (ahB f y fs))):=by
  unfold L2.ahC;simp only [h];exact propext ⟨fun z=>z.2.2,fun z=>⟨trivial,hl,z⟩⟩
theorem lA (h:G p=some (.ins C fs)) (e:fs.lookup m=none):ahE C m (.ref p) G=True:=eq_true ⟨p,fs,rfl,h,e⟩
theorem az4 {t:yH}:jJ C m sp dd EX ta t ρ G R=ta ρ G fun x G1=>ahE C m x G1/\t ρ G1 fun ds G2=>sp (x :: (ds++dd)) G2 R (EX ρ):=rfl
theorem az5 {t:yH}:aaI C sp dd EX t ρ G R=t ρ G fun ds G1=>∀ x,G1 x=none->sp (.ref x :: (ds++dd)) (aL G1 x (.ins C [])) (fun v G2=>v = .non/\R (.ref x) G2) (EX ρ):=rfl
theorem aNZ {r:RM3} {t:yH}:akD r to t ρ G R=to ρ G fun x G1=>w6 x G1/\t ρ G1 fun xs G2=>r x xs G2 R:=rfl
theorem az6 {te tf:cL}:nT to te tf ρ G R=to ρ G fun x G1=>w6 x G1/\te ρ G1 fun y G2=>tf ρ G2 fun z G3=>wR x y G3 fun _ _ kvs k=>R ((aK kvs k).getD z) G3:=rfl
theorem fZ {t:Bool} (h:G p=some (.bQ t kvs)):w6 (.ref p) G=True:=by
  unfold L2.w6;simp only [h]
theorem gA {t:Bool} {k:DK} {P:Addr->Bool->List (DK×D)->DK->Prop} (h:G p=some (.bQ t kvs)) (hk:a0G y=some k) (ht:tG k=t):wR (.ref p) y G P=P p t kvs k:=by
  unfold L2.wR;simp only [h,hk];exact propext ⟨fun z=>z.2,fun z=>⟨ht,z⟩⟩
theorem ap3 {t:Bool} {k:DK} {P:List (DK×D)->DK->Prop} (h:zQ G p=some (t,kvs)) (hk:a0G y=some k) (ht:tG k=t):aaL (.ref p) y G P=P kvs k:=by
  unfold L2.aaL;simp only [h,hk,ht,true_and]
theorem ae7 {t:Bool} (h:G p=some (.bQ t kvs)):zQ G p=some (t,kvs):=by unfold L2.zQ;rw [h]
theorem xA {o:Obj} {t:Bool} (h:G p=some (.rdc o t kvs)):zQ G p=some (t,kvs):=by unfold L2.zQ;rw [h]
theorem xB {t:Bool} {k:DK} (h:zQ G p=some (t,kvs)) (hk:a0G y=some k) (ht:tG k=t) (e:aK kvs k=some d):mX (.ref p) y G R=R d G:=by
  unfold L2.mX;rw [ap3 h hk ht];simp only [e]
theorem a5Z {t:Bool} {k:DK} (h:G p=some (.bQ t kvs)) (hk:a0G y=some k) (ht:tG k=t) (e:aK kvs k=some d):mX (.ref p) y G R=R d G:=xB (ae7 h) hk ht e
theorem amV (h:G p=some (.bQ false kvs)):a77 [.ref p] G R=R (.int kvs.length) G:=by
  unfold L2.a77;simp only [h]
end
end L8
namespace L9
open PySem PySem.Spec PyProof.Rows L2 L4 L5 L6 L7 L8
variable {to:cL}{q:Addr}{i:Int}{ps:List (Int×Int)}{M:List (List Key×Addr)}{y z d:D}{kvs:List (DK×D)}
section
variable {ρ:aO} {G:Gp} {R:j4} {F:fX} {p:Addr}
noncomputable abbrev ky (a p:Int):List Key:=[.inl a,.inl p]
theorem az7:a5U to ρ G R=to ρ G fun x G1=>yO x G1 R:=rfl
theorem aFO:afC to ρ G R=to ρ G fun x G1=>a0I x G1 R:=rfl
theorem nU {a q:Int}:a0G (.tup [.int a,.int q])=some (.inr (ky a q)):=rfl
theorem dD:a0G (.int i)=some (.inl (.inl i)):=rfl
theorem nW {k:List Key}:∀ {M:List (List Key×Addr)},aK (M.map ktD) (.inr k)=(aK M k).map D.ref
  | []=>rfl
  | z :: M=>by
    rw [dj];unfold aK;by_cases c:z.1=k
    . rw [if_pos c,if_pos (by show (Sum.inr z.1:DK)=_;rw [c])];rfl
    . rw [if_neg c,if_neg (show ¬ (ktD z).1=Sum.inr k from fun e=>c (nR _ _ e))];exact nW
theorem lB {i:Int}:∀ {ps:List (Int×Int)},aK (ps.map jC) (.inl (.inl i))=(aK ps i).map D.int
  | []=>rfl
  | z :: M=>by
    rw [dj];unfold aK;by_cases c:z.1=i
    . rw [if_pos c,if_pos (by show (Sum.inl (Sum.inl z.1):DK)=_;rw [c])];rfl
    . rw [if_neg c,if_neg (show ¬ (jC z).1=Sum.inl (Sum.inl i) from fun e=>c (by have:=pO _ _ e;injection this))];exact lB
theorem a65 {v:Int}:dR (ps.map jC) (.inl (.inl i)) (.int v)=(dR ps i v).map jC:=by
  unfold dR;rw [lB,yh];split
  . rw [lg,lg];refine um fun z _=>?_;show (if (Sum.inl (Sum.inl z.1):DK)=_ then _ else _)=jC (if z.1=i then (z.1,v) else z);by_cases c:z.1=i
    . rw [if_pos c,if_pos (by rw [c])];rfl
    . rw [if_neg c,if_neg (fun e=>c (by have:=pO _ _ e;injection this))]
  . rw [jk];rfl
theorem atX:bI (ps.map jC) (.inl (.inl i))=(bI ps i).map jC:=by
  unfold bI;rw [List.filter_map];congr 1;refine List.filter_congr fun z _=>?_;show (!decide ((Sum.inl (Sum.inl z.1):DK) = .inl (.inl i)))=_;by_cases c:z.1=i
  . rw [c];simp
  . rw [decide_eq_false c,decide_eq_false (fun e=>c (by have:=pO _ _ e;injection this))]
theorem atY {k:List Key}:bI (M.map ktD) (.inr k)=(bI M k).map ktD:=by
  unfold bI;rw [List.filter_map];congr 1;refine List.filter_congr fun z _=>?_;show (!decide ((Sum.inr z.1:DK) = .inr k))=_;by_cases c:z.1=k
  . rw [c];simp
  . rw [decide_eq_false c,decide_eq_false (fun e=>c (nR _ _ e))]
theorem atZ {κ α:Type} [DecidableEq κ] {kvs:List (κ×α)} {k:κ} {v:α} (h:aK kvs k=none):dR kvs k v=kvs++[(k,v)]:=by
  unfold dR;rw [h];rfl
theorem az8 {k:DK} (h:G p=some (.bQ true kvs)) (hk:a0G y=some k) (ht:tG k=true) (hl:kvs.length < sizeLine) (e:aK kvs k=none):a8C (.ref p) [y,z] G R=R z (aL G p (.bQ true (kvs++[(k,z)]))):=by
  unfold L2.a8C;simp only;rw [gA h hk ht];simp only [e,atZ e];exact propext ⟨fun w=>w.2.2,fun w=>⟨trivial,hl,w⟩⟩
theorem az9 {k:DK} (h:G p=some (.bQ true kvs)) (hk:a0G y=some k) (ht:tG k=true) (hl:kvs.length < sizeLine) (e:aK kvs k=some d):a8C (.ref p) [y,z] G R=R d G:=by
  unfold L2.a8C;simp only;rw [gA h hk ht];simp only [e];exact propext ⟨fun w=>w.2.2,fun w=>⟨trivial,hl,w⟩⟩
theorem amW {t:Bool} {k:DK} (h:G p=some (.bQ t kvs)) (hk:a0G y=some k) (ht:tG k=t) (e:aK kvs k=some d):a76 (.ref p) [y] G R=R d (aL G p (.bQ t (bI kvs k))):=by
  unfold L2.a76;simp only;rw [gA h hk ht];simp only [e]
theorem a66 {t:Bool} {v:D} {k:DK} (h:G p=some (.bQ t kvs)) (hk:a0G y=some k) (ht:tG k=t) (hl:kvs.length < sizeLine):am3 (.ref p) y v F ρ G=F.nx ρ (aL G p (.bQ t (dR kvs k v))):=by
  unfold L2.am3;rw [gA h hk ht];exact propext ⟨fun w=>w.2,fun w=>⟨hl,w⟩⟩
theorem aFP {t:Bool} {k:DK} (h:G p=some (.bQ t kvs)) (hk:a0G y=some k) (ht:tG k=t):ahI y (.ref p) G R=R (.bl (aK kvs k).isSome) G:=by
  unfold L2.ahI;rw [gA h hk ht]
theorem au0 (h:G p=some (.bQ false (ps.map jC))) (hl:ps.length < 64) (k:∀ qs:List (Int×Int),qs.Perm ps->pP qs->∀ r,G r=none->R (.ref r) (aL G r (.lst (qs.map prV)))):yO (.ref p) G R:=by
  unfold L2.yO;simp only [h];exact ⟨ps,rfl,hl,k⟩
theorem azA (h:G p=some (.bQ false (ps.map jC))) (k:R (.int (ps.map (·.2)).sum) G):a0I (.ref p) G R:=by
  unfold L2.a0I;simp only [h];exact ⟨ps,rfl,k⟩
theorem au1 (h:G p=some (.bQ true kvs)) (e:(kvs.map fun q=>dkD q.1)=ps.map prV) (nd:ps.Nodup) (hl:ps.length < 64) (k:∀ qs:List (Int×Int),qs.Perm ps->pP qs->∀ r,G r=none->R (.ref r) (aL G r (.lst (qs.map prV)))):vA [.ref p] G R:=by
  unfold L2.vA;simp only [h];exact ⟨ps,e,nd,hl,k⟩
theorem azB {neg:Bool} {N:List (List Key×Addr)} {c:Addr->List (Int×Int)} (h:G p=some (.bQ true (M.map ktD))) (h2:G q=some (.bQ true (N.map ktD))) (hc:∀ z∈M++N,G z.2=some (.bQ false ((c z.2).map jC))) (k:R (.bl (neg ^^ eqT c M N)) G):aaS neg (.ref p) (.ref q) G R := .inr ⟨p,q,M,N,c,rfl,rfl,h,h2,hc,k⟩
theorem ap4 {ds:List D} {b:Bool} (h:bY G q=some ds) (ha:ds.all aoG=true) (j:Nat) (hj:ds[j]?=some (.bl b)) (hn:∀ m,m < j->ds[m]?≠some (.bl b)) (k:R (.int j) G):wW (.ref q) [.bl b] G R:=by
  unfold L2.wW;simp only [h];exact ⟨ha,j,hj,hn,k⟩
end
end L9
namespace L10
open PySem PySem.Spec PyProof.Rows L2 L4 L5 L6
variable {to:cL}{R:j4}
section
variable {ρ:aO} {G:Gp} {F:fX} {p:Addr} {al t:Bool} {od:Obj} {kvs:List (DK×D)} {Q:Src->Gp->Prop} {tg:TG3} {tb:bJ}
theorem ap5:sG al to ρ G Q=to ρ G fun x G1=>aaV al x G1 Q:=rfl
theorem au2 {te:cL}:tK al te ρ G Q=te ρ G fun x G1=>aaX al x G1 Q:=rfl
theorem azC:a9L to ρ G R=to ρ G fun x G1=>yP x G1 R:=rfl
theorem au3 (h:zQ G p=some (false,kvs)):yP (.ref p) G R=∀ l,G l=none->R (.ref l) (aL G l (.lst (kvs.map (·.2)))):=by
  unfold L2.yP;simp only [h]
theorem azD (h:G p=some (.bQ false kvs)):aaV al (.ref p) G Q=∀ od,Q (.itm p od kvs) (aL G p (.rdc od false kvs)):=by
  unfold L2.aaV;simp only [h]
theorem afR (h:G p=some (.bQ t kvs)):aaX al (.ref p) G Q=∀ od,Q (.key p od t kvs) (aL G p (.rdc od t kvs)):=by
  unfold L2.aaX;simp only [h]
noncomputable def au4 (src:Src) (tg:TG3) (tb:bJ) (F:fX) (ρ:aO) (G1:Gp):Prop:=∃ P:Nat->aO->Gp->Prop,P 0 ρ G1/\(∀ k ρ G,k<=src.items.length->P k ρ G->src.ok G) /\
  (∀ k d ρ G,src.items[k]?=some d->P k ρ G->tg d ρ fun ρ2=>tb { F with nx:=P (k+1),ct:=P (k+1),bk:=fun ρ G=>src.ok G/\F.nx ρ (src.akL G) } ρ2 G)/\∀ ρ G,P src.items.length ρ G->F.nx ρ (src.akL G)
theorem aFQ {ti:TI3}:a2D ti tg tb F ρ G=ti ρ G fun src G1=>au4 src tg tb F ρ G1:=rfl
theorem a7F {α β:Type} {f:α->β} {l:List α} {k:Nat} {d:β} (h:(l.map f)[k]?=some d):∃ q,l[k]?=some q/\f q=d:=by
  rw [qg] at h;cases e:l[k]? with
  | none=>rw [e] at h;cases h
  | some q=>rw [e] at h;exact ⟨q,rfl,gk.inj h⟩
theorem aiC (P:Nat->aO->Gp->Prop) (h0:P 0 ρ G) (hs:∀ k ρ G,P k ρ G->G p=some (.rdc od t kvs))
    (hb:∀ k q ρ G,kvs[k]?=some q->P k ρ G->tg (dkD q.1) ρ fun ρ2=>tb { F with nx:=P (k+1),ct:=P (k+1),bk:=fun ρ G=>G p=some (.rdc od t kvs)/\F.nx ρ (aL G p (.bQ t kvs)) } ρ2 G)
    (he:∀ ρ G,P kvs.length ρ G->F.nx ρ (aL G p (.bQ t kvs))):au4 (.key p od t kvs) tg tb F ρ G :=
  ⟨P,h0,fun k ρ G _ q=>hs k ρ G q,fun k d ρ G e q=>by obtain ⟨z,e1,rfl⟩:=a7F e;exact hb k z ρ G e1 q,fun ρ G q=>he ρ G (by simpa [Src.items] using q)⟩
theorem au5 (P:Nat->aO->Gp->Prop) (h0:P 0 ρ G) (hs:∀ k ρ G,P k ρ G->G p=some (.rdc od false kvs))
    (hb:∀ k q ρ G,kvs[k]?=some q->P k ρ G->tg (.tup [dkD q.1,q.2]) ρ fun ρ2=>tb { F with nx:=P (k+1),ct:=P (k+1),bk:=fun ρ G=>G p=some (.rdc od false kvs)/\F.nx ρ (aL G p (.bQ false kvs)) } ρ2 G)
    (he:∀ ρ G,P kvs.length ρ G->F.nx ρ (aL G p (.bQ false kvs))):au4 (.itm p od kvs) tg tb F ρ G :=
  ⟨P,h0,fun k ρ G _ q=>hs k ρ G q,fun k d ρ G e q=>by obtain ⟨z,e1,rfl⟩:=a7F e;exact hb k z ρ G e1 q,fun ρ G q=>he ρ G (by simpa [Src.items] using q)⟩
end
end L10
namespace L11
open PySem PySem.Spec PyProof.Rows L2 L4 L5 L6
section
variable {ρ:aO} {G:Gp} {F:fX} {p:Addr} {xs:List D} {Q:Src->Gp->Prop} {tg:TG3} {tb:bJ} {R:j4}
end
end L11
namespace Law
open PySem PySem.Spec PyProof.Rows L2 L4
noncomputable def top (i:Nat):Stmt:=PySem.Challenge.pw_depot_k23_whole_no_grain_lost.main.body.getD i (.Pass ⟨0,0,0,0⟩)
noncomputable abbrev ab2:Stmt:=top 12
noncomputable abbrev ae8:Stmt:=top 13
noncomputable abbrev a8F:Stmt:=top 14
noncomputable abbrev ae9:Stmt:=top 17
noncomputable abbrev a8G:Stmt:=top 18
noncomputable abbrev aiD:Stmt:=top 19
noncomputable abbrev ab3:Stmt:=top 21
noncomputable abbrev ab4:Stmt:=top 22
noncomputable abbrev a3A:Stmt:=top 23
noncomputable abbrev aiE:Stmt:=top 26
noncomputable abbrev ab5:Stmt:=top 27
noncomputable abbrev eV:Stmt:=inClass (top 28) 0
noncomputable abbrev xC:Stmt:=inClass (top 28) 6
noncomputable abbrev rQ:Stmt:=inClass (top 28) 10
noncomputable abbrev a3B:Stmt:=inClass (top 28) 1
noncomputable abbrev xD:Stmt:=inClass (top 28) 4
noncomputable abbrev qC:Stmt:=inClass (top 28) 9
noncomputable abbrev a0K:Stmt:=inClass (top 28) 2
noncomputable abbrev zU:Stmt:=inClass (top 28) 3
noncomputable abbrev a0L:Stmt:=inClass (top 28) 5
noncomputable abbrev xE:Stmt:=inClass (top 28) 7
noncomputable abbrev zV:Stmt:=inClass (top 28) 8
noncomputable abbrev a0M:Stmt:=top 30
noncomputable abbrev a8H:Stmt:=top 31
noncomputable abbrev a3C:Stmt:=top 32
noncomputable abbrev a8I:Stmt:=top 33
noncomputable abbrev a67:Stmt:=top 34
noncomputable abbrev a8J:Stmt:=top 35
noncomputable abbrev zW:Stmt:=top 36
noncomputable abbrev aiF:Stmt:=top 37
set_option genInjectivity false in
structure bG where
  a4A:Addr
  tQ:FuncData
  a7G:Addr
  xF:FuncData
  a0N:Addr
  qD:FuncData
  a7H:Addr
  xG:FuncData
  a0O:Addr
  qF:FuncData
  ab6:Addr
  a0P:FuncData
  a4B:Addr
  tR:FuncData
  a4C:Addr
  tU:FuncData
  wA:Addr
  mD:FuncData
  ab7:Addr
  a0Q:FuncData
  a4D:Addr
  tV:FuncData
  bM:Addr
  gY:FuncData
  gB:Addr
  gC:FuncData
  dW:Addr
  dX:FuncData
  mF:Addr
  mH:FuncData
  gF:Addr
  gG:FuncData
  dF:Addr
  dG:FuncData
  jM:Addr
  jN:FuncData
  iR:Addr
  iT:FuncData
  jO:Addr
  jP:FuncData
  gH:Addr
  gJ:FuncData
  iU:Addr
  iV:FuncData
  tW:Addr
  jQ:FuncData
  a0R:Addr
  qG:FuncData
  wB:Addr
  mJ:FuncData
  a0S:Addr
  qH:FuncData
  yR:Addr
  nY:FuncData
  a0T:Addr
  qI:FuncData
  rC:Addr
  iW:FuncData
  a8K:Addr
  au6:FuncData
  dZ:Addr
  gK:Addr
  lC:Addr
  lD:Addr
  cV:Addr
  bL:Addr
  aN:Addr
  aC:Addr
noncomputable def yS (K:Fg) (A:bG) (ex:aO->aZ):bJ :=
    (d7 (a3R (lX (aF K) (aA (aB 0) (aA (bC (.ty "int")) aD))) (a3R (aeV (lX (aF K) (aA (aB 0) (aA (bC (.ty "bool")) aD)))) (v8 aqI aqI (aB 1) (aB 0) (aB 2)))))
noncomputable def cG (K:Fg) (A:bG):uX:=spD 3 3 fun EX=>yS K A (fun _=>EX)
noncomputable def al0:CB:=(.cons (.ret (.asI (.cons (.call 1 (.cons (.var 0) (.cons (.glo 0) .nil))) (.cons (.axT (.call 1 (.cons (.var 0) (.cons (.glo 2) .nil)))) (.cons (.chain .LtE .LtE (.var 1) (.var 0) (.var 2)) .nil))))) .nil)
noncomputable def al1 (K:Fg) (A:bG):SI:=⟨["thing", "least", "most"],[true,true,true],[true,true,true],[false,false,false],[("int",.bt "int"),("isinstance",.bf .isi),("bool",.bt "bool")],[true,true,true],true⟩
noncomputable def a8L (K:Fg) (A:bG) (ex:aO->aZ):bJ :=
    (d7 (a3R (aV (cG K A) ex (aA (aG iQ (aB 0) (bC (.int 0))) (aA (bC (.int 0)) (aA (aG adI (aB 1) (bC (.int 1))) aD)))) (aV (cG K A) ex (aA (aG iQ (aB 0) (bC (.int 1))) (aA (aB 2) (aA (aB 3) aD))))))
noncomputable def xH (K:Fg) (A:bG) (ex:aO->aZ):bJ :=
    aR (gR (aa2 (wO (bB (lX (aF K) (aA (aB 0) (aA (bC (.ty "tuple")) aD))))) (bB (aG a8V (lX a0E (aA (aB 0) aD)) (bC (.int 2))))) (d7 (bC (.bl false))) cT) (a8L K A ex)
noncomputable def yU (K:Fg) (A:bG):uX:=spD 4 4 fun EX=>xH K A (fun _=>EX)
noncomputable def ap6:CB:=(.cons (.ifs (.or (.cons (.not (.val (.call 1 (.cons (.var 0) (.cons (.glo 0) .nil))))) (.cons (.cmp .NotEq (.call 2 (.cons (.var 0) .nil)) (.con (.int 2))) .nil))) (.cons (.ret (.con (.bl false))) .nil) .nil) (.cons (.ret (.asI (.cons (.call 3 (.cons (.ix (.var 0) (.con (.int 0))) (.cons (.con (.int 0)) (.cons (.bin .Sub (.var 1) (.con (.int 1))) .nil)))) (.cons (.call 3 (.cons (.ix (.var 0) (.con (.int 1))) (.cons (.var 2) (.cons (.var 3) .nil)))) .nil)))) .nil))
noncomputable def ap7 (K:Fg) (A:bG):SI:=⟨["thing", "aisles", "first", "last"],[true,true,true,true],[true,true,true,true],[false,false,false,false],[("tuple",.bt "tuple"),("isinstance",.bf .isi),("len",.bf .len),("is_whole",.fn (cG K A) 3 false)],[true,true,true,true],true⟩
noncomputable def a0U (K:Fg) (A:bG) (ex:aO->aZ):bJ :=
    (d7 (aV (cG K A) ex (aA (aB 0) (aA (bC (.int 1)) (aA (bC (.int 1000000)) aD)))))
noncomputable def sH (K:Fg) (A:bG):uX:=spD 1 1 fun EX=>a0U K A (fun _=>EX)
noncomputable def aiG:CB:=(.cons (.ret (.call 1 (.cons (.var 0) (.cons (.con (.int 1)) (.cons (.glo 0) .nil))))) .nil)
noncomputable def aiH (K:Fg) (A:bG):SI:=⟨["thing"],[true],[true],[false],[("MOST_AMOUNT",.con (.int 1000000)),("is_whole",.fn (cG K A) 3 false)],[true,true],true⟩
noncomputable def a8M (K:Fg) (A:bG) (ex:aO->aZ):bJ :=
    (d7 (aV (cG K A) ex (aA (aG iQ (aB 0) (bC (.int 2))) (aA (bC (.int 1)) (aA (bC (.int 20)) aD)))))
noncomputable def a8N (K:Fg) (A:bG) (ex:aO->aZ):bJ :=
    aR (gR (aa2 (wO (bB (aV (cG K A) ex (aA (aG iQ (aB 0) (bC (.int 0))) (aA (bC (.int 1)) (aA (bC (.int 26)) aD)))))) (wO (bB (aV (cG K A) ex (aA (aG iQ (aB 0) (bC (.int 1))) (aA (bC (.int 1)) (aA (bC (.int 99)) aD))))))) (d7 (bC (.bl false))) cT) (a8M K A ex)
noncomputable def xJ (K:Fg) (A:bG) (ex:aO->aZ):bJ :=
    aR (gR (aa2 (wO (bB (lX (aF K) (aA (aB 0) (aA (bC (.ty "tuple")) aD))))) (bB (aG a8V (lX a0E (aA (aB 0) aD)) (bC (.int 3))))) (d7 (bC (.bl false))) cT) (a8N K A ex)
noncomputable def yV (K:Fg) (A:bG):uX:=spD 1 1 fun EX=>xJ K A (fun _=>EX)
noncomputable def ap8:CB:=(.cons (.ifs (.or (.cons (.not (.val (.call 1 (.cons (.var 0) (.cons (.glo 0) .nil))))) (.cons (.cmp .NotEq (.call 2 (.cons (.var 0) .nil)) (.con (.int 3))) .nil))) (.cons (.ret (.con (.bl false))) .nil) .nil) (.cons (.ifs (.or (.cons (.not (.val (.call 4 (.cons (.ix (.var 0) (.con (.int 0))) (.cons (.con (.int 1)) (.cons (.glo 3) .nil)))))) (.cons (.not (.val (.call 4 (.cons (.ix (.var 0) (.con (.int 1))) (.cons (.con (.int 1)) (.cons (.glo 5) .nil)))))) .nil))) (.cons (.ret (.con (.bl false))) .nil) .nil) (.cons (.ret (.call 4 (.cons (.ix (.var 0) (.con (.int 2))) (.cons (.con (.int 1)) (.cons (.glo 6) .nil))))) .nil)))
noncomputable def ap9 (K:Fg) (A:bG):SI:=⟨["thing"],[true],[true],[false],[("tuple",.bt "tuple"),("isinstance",.bf .isi),("len",.bf .len),("MOST_AISLES",.con (.int 26)),("is_whole",.fn (cG K A) 3 false),("MOST_PLACES",.con (.int 99)),("MOST_GAP",.con (.int 20))],[true,true,true,true,true,true,true],true⟩
noncomputable def a0V (K:Fg) (A:bG) (ex:aO->aZ):bJ :=
    (gR (wO (bB (aV (yV K A) ex (aA (aB 0) aD)))) (pL ex A.gK (aA (bC (.str "a tuple of 1 to 26 aisles, 1 to 99 places and a gap from 1 to 20 is wanted")) aD)) cT)
noncomputable def gZ (K:Fg) (A:bG):uX:=spD 1 1 fun EX=>a0V K A (fun _=>EX)
noncomputable def aiI:CB:=(.cons (.ifs (.not (.val (.call 0 (.cons (.var 0) .nil)))) (.cons (.raise 1 (.con (.str "a tuple of 1 to 26 aisles, 1 to 99 places and a gap from 1 to 20 is wanted")) .nil) .nil) .nil) .nil)
noncomputable def aiJ (K:Fg) (A:bG):SI:=⟨["plan"],[true],[true],[false],[("is_plan",.fn (yV K A) 1 false),("NoPlan",.cls A.gK)],[true,true],true⟩
noncomputable def ab8 (K:Fg) (A:bG) (ex:aO->aZ):bJ :=
    (d7 (aV (yU K A) ex (aA (aB 1) (aA (aG iQ (aB 0) (bC (.int 0))) (aA (bC (.int 1)) (aA (aG iQ (aB 0) (bC (.int 1))) aD))))))
noncomputable def ab9 (K:Fg) (A:bG) (ex:aO->aZ):bJ :=
    aR (cF (aV (gZ K A) ex (aA (aB 0) aD))) (ab8 K A ex)
noncomputable def a2F (K:Fg) (A:bG):uX:=spD 2 2 fun EX=>ab9 K A (fun _=>EX)
noncomputable def au7:CB:=(.cons (.expr (.call 0 (.cons (.var 0) .nil))) (.cons (.ret (.call 1 (.cons (.var 1) (.cons (.ix (.var 0) (.con (.int 0))) (.cons (.con (.int 1)) (.cons (.ix (.var 0) (.con (.int 1))) .nil)))))) .nil))
noncomputable def au8 (K:Fg) (A:bG):SI:=⟨["plan", "thing"],[true,true],[true,true],[false,false],[("need_plan",.fn (gZ K A) 1 false),("is_pair",.fn (yU K A) 4 false)],[true,true],true⟩
noncomputable def a4E (K:Fg) (A:bG) (ex:aO->aZ):bJ :=
    (gR (wO (bB (aV (cG K A) ex (aA (aB 0) (aA (bC (.int 0)) (aA (aG adI (aB 1) (bC (.int 1))) aD)))))) (pL ex A.lD (aA (bC (.str "there is no lot of that number")) aD)) cT)
noncomputable def cH (K:Fg) (A:bG):uX:=spD 2 2 fun EX=>a4E K A (fun _=>EX)
noncomputable def al2:CB:=(.cons (.ifs (.not (.val (.call 0 (.cons (.var 0) (.cons (.con (.int 0)) (.cons (.bin .Sub (.var 1) (.con (.int 1))) .nil)))))) (.cons (.raise 1 (.con (.str "there is no lot of that number")) .nil) .nil) .nil) .nil)
noncomputable def al3 (K:Fg) (A:bG):SI:=⟨["thing", "lots"],[true,true],[true,true],[false,false],[("is_whole",.fn (cG K A) 3 false),("NoLot",.cls A.lD)],[true,true],true⟩
noncomputable def a4F (K:Fg) (A:bG) (ex:aO->aZ):bJ :=
    (gR (wO (bB (aV (a2F K A) ex (aA (aB 0) (aA (aB 1) aD))))) (pL ex A.lC (aA (bC (.str "a bin of the plan is wanted")) aD)) cT)
noncomputable def bT (K:Fg) (A:bG):uX:=spD 2 2 fun EX=>a4F K A (fun _=>EX)
noncomputable def al4:CB:=(.cons (.ifs (.not (.val (.call 0 (.cons (.var 0) (.cons (.var 1) .nil))))) (.cons (.raise 1 (.con (.str "a bin of the plan is wanted")) .nil) .nil) .nil) .nil)
noncomputable def al5 (K:Fg) (A:bG):SI:=⟨["plan", "thing"],[true,true],[true,true],[false,false],[("is_bin",.fn (a2F K A) 2 false),("NoBin",.cls A.lC)],[true,true],true⟩
noncomputable def wC (K:Fg) (A:bG) (ex:aO->aZ):bJ :=
    (gR (wO (bB (aV (sH K A) ex (aA (aB 0) aD)))) (pL ex A.cV (aA (bC (.str "a whole number from 1 to 10 ** 6 is wanted")) aD)) cT)
noncomputable def bZ (K:Fg) (A:bG):uX:=spD 1 1 fun EX=>wC K A (fun _=>EX)
noncomputable def acQ:CB:=(.cons (.ifs (.not (.val (.call 0 (.cons (.var 0) .nil)))) (.cons (.raise 1 (.con (.str "a whole number from 1 to 10 ** 6 is wanted")) .nil) .nil) .nil) .nil)
noncomputable def acR (K:Fg) (A:bG):SI:=⟨["thing"],[true],[true],[false],[("is_amount",.fn (sH K A) 1 false),("NoAmount",.cls A.cV)],[true,true],true⟩
noncomputable def yW (K:Fg) (A:bG) (ex:aO->aZ):bJ :=
    (gR (bB (aG a5L (lX a77 (aA (aB 4) aD)) (bC (.int 0)))) (cF (akD a76 (aB 0) (aA (aB 1) aD))) cT)
noncomputable def abA (K:Fg) (A:bG) (ex:aO->aZ):bJ :=
    aR (gR (bB (aG a5L (aG mX (aB 4) (aB 2)) (bC (.int 0)))) (cF (akD a76 (aB 4) (aA (aB 2) aD))) cT) (yW K A ex)
noncomputable def a4G (K:Fg) (A:bG) (ex:aO->aZ):bJ :=
    aR (a3V (aB 4) (aB 2) (aG fU (nT (aB 4) (aB 2) (bC (.int 0))) (aB 3))) (abA K A ex)
noncomputable def a0W (K:Fg) (A:bG) (ex:aO->aZ):bJ :=
    aR (eU 4 (akD a8C (aB 0) (aA (aB 1) (aA vY aD)))) (a4G K A ex)
noncomputable def eO (K:Fg) (A:bG):uX:=spD 5 4 fun EX=>a0W K A (fun _=>EX)
noncomputable def au9:CB:=(.cons (.set 4 (.dm .sdf (.var 0) (.var 1) (.cons .dct .nil))) (.cons (.akQ (.var 4) (.var 2) (.bin .Add (.dgt (.var 4) (.var 2) (.con (.int 0))) (.var 3))) (.cons (.ifs (.cmp .Eq (.dix (.var 4) (.var 2)) (.con (.int 0))) (.cons (.expr (.dm .pop (.var 4) (.var 2) .nil)) .nil) .nil) (.cons (.ifs (.cmp .Eq (.call 0 (.cons (.var 4) .nil)) (.con (.int 0))) (.cons (.expr (.dm .pop (.var 0) (.var 1) .nil)) .nil) .nil) .nil))))
noncomputable def auA (K:Fg) (A:bG):SI:=⟨["stacks", "spot", "lot", "more", "held"],[true,true,true,true,true],[true,true,true,true,true],[false,false,false,false,false],[("len",.bf .asH)],[true],true⟩
noncomputable def a3D (K:Fg) (A:bG) (ex:aO->aZ):bJ :=
    (a3V (aB 1) (aB 2) (lX yN (aA (a5U (aG mX (aB 0) (aB 2))) aD)))
noncomputable def a68 (K:Fg) (A:bG) (ex:aO->aZ):bJ :=
    (d7 (aB 1))
noncomputable def a69 (K:Fg) (A:bG) (ex:aO->aZ):bJ :=
    aR (aaE (awX (lX vA (aA (aB 0) aD))) (a3U 2) (a3D K A ex)) (a68 K A ex)
noncomputable def a4H (K:Fg) (A:bG) (ex:aO->aZ):bJ :=
    aR (eU 1 a5N) (a69 K A ex)
noncomputable def a0X (K:Fg) (A:bG):uX:=spD 3 1 fun EX=>a4H K A (fun _=>EX)
noncomputable def al6:CB:=(.cons (.set 1 .asK) (.cons (.asW (.any (.call 0 (.cons (.var 0) .nil))) (.nm 2) (.cons (.akQ (.var 1) (.var 2) (.call 2 (.cons (.sortI 1 (.dix (.var 0) (.var 2))) .nil))) .nil)) (.cons (.ret (.var 1)) .nil)))
noncomputable def al7 (K:Fg) (A:bG):SI:=⟨["stacks", "told", "spot"],[true,true,true],[true,true,true],[false,false,false],[("sorted",.bf .ai0),("sorted",.bf .ae1),("dict",.bf .ai1)],[true,true,true],true⟩
noncomputable def qJ (K:Fg) (A:bG) (ex:aO->aZ):bJ :=
    (a75 A.aC (aB 0) a5N "stacks")
noncomputable def qK (K:Fg) (A:bG) (ex:aO->aZ):bJ :=
    aR (a75 A.aC (aB 0) (aB 2) "room") (qJ K A ex)
noncomputable def qL (K:Fg) (A:bG) (ex:aO->aZ):bJ :=
    aR (a75 A.aC (aB 0) (aB 1) "layout") (qK K A ex)
noncomputable def qM (K:Fg) (A:bG) (ex:aO->aZ):bJ :=
    aR (cF (aV (bZ K A) ex (aA (aB 2) aD))) (qL K A ex)
noncomputable def mY (K:Fg) (A:bG) (ex:aO->aZ):bJ :=
    aR (cF (aV (gZ K A) ex (aA (aB 1) aD))) (qM K A ex)
noncomputable def fV (K:Fg) (A:bG):uX:=spD 3 3 fun EX=>mY K A (fun _=>EX)
noncomputable def eX:CB:=(.cons (.expr (.call 0 (.cons (.var 1) .nil))) (.cons (.expr (.call 1 (.cons (.var 2) .nil))) (.cons (.aoX 2 (.var 0) (.var 1)) (.cons (.aoX 3 (.var 0) (.var 2)) (.cons (.aoX 4 (.var 0) .asK) .nil)))))
noncomputable def a4I (K:Fg) (A:bG):SI:=⟨["self", "plan", "room"],[true,true,true],[true,true,true],[false,false,false],[("need_plan",.fn (gZ K A) 1 false),("need_amount",.fn (bZ K A) 1 false),("Shelves.layout",.fl A.aC "layout"),("Shelves.room",.fl A.aC "room"),("Shelves.stacks",.fl A.aC "stacks")],[true,true,false,false,false],true⟩
noncomputable def tX (K:Fg) (A:bG) (ex:aO->aZ):bJ :=
    (d7 (afC (nT (lU A.aC (aB 0) "stacks") (aB 1) vY)))
noncomputable def oX (K:Fg) (A:bG) (ex:aO->aZ):bJ :=
    aR (cF (aV (bT K A) ex (aA (lU A.aC (aB 0) "layout") (aA (aB 1) aD)))) (tX K A ex)
noncomputable def jD (K:Fg) (A:bG):uX:=spD 2 2 fun EX=>oX K A (fun _=>EX)
noncomputable def a7I:CB:=(.cons (.expr (.call 1 (.cons (.fld 0 (.var 0)) (.cons (.var 1) .nil)))) (.cons (.ret (.axV 2 (.dgt (.fld 3 (.var 0)) (.var 1) .dct))) .nil))
noncomputable def a7J (K:Fg) (A:bG):SI:=⟨["self", "spot"],[true,true],[true,true],[false,false],[("Shelves.layout",.fl A.aC "layout"),("need_bin",.fn (bT K A) 2 false),("sum",.bf .sum),("Shelves.stacks",.fl A.aC "stacks")],[false,true,true,false],true⟩
noncomputable def lY (K:Fg) (A:bG) (ex:aO->aZ):bJ :=
    (gR (bB (aG aqH (aG fU (jJ A.aC "filled" (jD K A) [] ex (aB 0) (aA (aB 1) aD)) (aB 2)) (lU A.aC (aB 0) "room"))) (pL ex A.bL (aA (bC (.str "the bin would have more than its room")) aD)) cT)
noncomputable def cI (K:Fg) (A:bG):uX:=spD 3 3 fun EX=>lY K A (fun _=>EX)
noncomputable def a2N:CB:=(.cons (.ifs (.cmp .Gt (.bin .Add (.rP 0 (.var 0) (.cons (.var 1) .nil)) (.var 2)) (.fld 1 (.var 0))) (.cons (.raise 2 (.con (.str "the bin would have more than its room")) .nil) .nil) .nil) .nil)
noncomputable def a2O (K:Fg) (A:bG):SI:=⟨["self", "spot", "amount"],[true,true,true],[true,true,true],[false,false,false],[("Shelves.filled#1",.me A.aC "filled" (jD K A) []),("Shelves.room",.fl A.aC "room"),("NoRoom",.cls A.bL)],[false,false,true],true⟩
noncomputable def zX (K:Fg) (A:bG) (ex:aO->aZ):bJ :=
    (cF (aV (eO K A) ex (aA (lU A.aC (aB 0) "stacks") (aA (aB 2) (aA (aB 1) (aA (aB 3) aD))))))
noncomputable def zY (K:Fg) (A:bG) (ex:aO->aZ):bJ :=
    aR (cF (jJ A.aC "need_room" (cI K A) [] ex (aB 0) (aA (aB 2) (aA (aB 3) aD)))) (zX K A ex)
noncomputable def zZ (K:Fg) (A:bG) (ex:aO->aZ):bJ :=
    aR (cF (aV (bZ K A) ex (aA (aB 3) aD))) (zY K A ex)
noncomputable def a00 (K:Fg) (A:bG) (ex:aO->aZ):bJ :=
    aR (cF (aV (bT K A) ex (aA (lU A.aC (aB 0) "layout") (aA (aB 2) aD)))) (zZ K A ex)
noncomputable def wD (K:Fg) (A:bG) (ex:aO->aZ):bJ :=
    aR (cF (aV (cH K A) ex (aA (aB 1) (aA (bC (.int 1000)) aD)))) (a00 K A ex)
noncomputable def jR (K:Fg) (A:bG):uX:=spD 4 4 fun EX=>wD K A (fun _=>EX)
noncomputable def acS:CB:=(.cons (.expr (.call 1 (.cons (.var 1) (.cons (.glo 0) .nil)))) (.cons (.expr (.call 3 (.cons (.fld 2 (.var 0)) (.cons (.var 2) .nil)))) (.cons (.expr (.call 4 (.cons (.var 3) .nil))) (.cons (.expr (.rP 5 (.var 0) (.cons (.var 2) (.cons (.var 3) .nil)))) (.cons (.expr (.call 7 (.cons (.fld 6 (.var 0)) (.cons (.var 2) (.cons (.var 1) (.cons (.var 3) .nil)))))) .nil)))))
noncomputable def acT (K:Fg) (A:bG):SI:=⟨["self", "lot", "spot", "amount"],[true,true,true,true],[true,true,true,true],[false,false,false,false],[("MOST_LOTS",.con (.int 1000)),("need_lot",.fn (cH K A) 2 false),("Shelves.layout",.fl A.aC "layout"),("need_bin",.fn (bT K A) 2 false),("need_amount",.fn (bZ K A) 1 false),("Shelves.need_room#2",.me A.aC "need_room" (cI K A) []),("Shelves.stacks",.fl A.aC "stacks"),("change",.fn (eO K A) 4 false)],[true,true,false,true,true,false,false,true],true⟩
noncomputable def tY (K:Fg) (A:bG) (ex:aO->aZ):bJ :=
    (d7 (nT (nT (lU A.aC (aB 0) "stacks") (aB 2) vY) (aB 1) (bC (.int 0))))
noncomputable def tZ (K:Fg) (A:bG) (ex:aO->aZ):bJ :=
    aR (cF (aV (bT K A) ex (aA (lU A.aC (aB 0) "layout") (aA (aB 2) aD)))) (tY K A ex)
noncomputable def oY (K:Fg) (A:bG) (ex:aO->aZ):bJ :=
    aR (cF (aV (cH K A) ex (aA (aB 1) (aA (bC (.int 1000)) aD)))) (tZ K A ex)
noncomputable def jE (K:Fg) (A:bG):uX:=spD 3 3 fun EX=>oY K A (fun _=>EX)
noncomputable def a7K:CB:=(.cons (.expr (.call 1 (.cons (.var 1) (.cons (.glo 0) .nil)))) (.cons (.expr (.call 3 (.cons (.fld 2 (.var 0)) (.cons (.var 2) .nil)))) (.cons (.ret (.dgt (.dgt (.fld 4 (.var 0)) (.var 2) .dct) (.var 1) (.con (.int 0)))) .nil)))
noncomputable def a7L (K:Fg) (A:bG):SI:=⟨["self", "lot", "spot"],[true,true,true],[true,true,true],[false,false,false],[("MOST_LOTS",.con (.int 1000)),("need_lot",.fn (cH K A) 2 false),("Shelves.layout",.fl A.aC "layout"),("need_bin",.fn (bT K A) 2 false),("Shelves.stacks",.fl A.aC "stacks")],[true,true,false,true,false],true⟩
noncomputable def jT (K:Fg) (A:bG) (ex:aO->aZ):bJ :=
    (gR (bB (aG ao5 (jJ A.aC "amount" (jE K A) [] ex (aB 0) (aA (aB 1) (aA (aB 2) aD))) (aB 3))) (pL ex A.aN (aA (bC (.str "less of the lot lies in the bin")) aD)) cT)
noncomputable def cC (K:Fg) (A:bG):uX:=spD 4 4 fun EX=>jT K A (fun _=>EX)
noncomputable def a0Y:CB:=(.cons (.ifs (.cmp .Lt (.rP 0 (.var 0) (.cons (.var 1) (.cons (.var 2) .nil))) (.var 3)) (.cons (.raise 1 (.con (.str "less of the lot lies in the bin")) .nil) .nil) .nil) .nil)
noncomputable def a0Z (K:Fg) (A:bG):SI:=⟨["self", "lot", "spot", "amount"],[true,true,true,true],[true,true,true,true],[false,false,false,false],[("Shelves.amount#2",.me A.aC "amount" (jE K A) []),("TooLittle",.cls A.aN)],[false,true],true⟩
noncomputable def xK (K:Fg) (A:bG) (ex:aO->aZ):bJ :=
    (cF (aV (eO K A) ex (aA (lU A.aC (aB 0) "stacks") (aA (aB 2) (aA (aB 1) (aA (agX (aB 3)) aD))))))
noncomputable def xM (K:Fg) (A:bG) (ex:aO->aZ):bJ :=
    aR (cF (jJ A.aC "need_there" (cC K A) [] ex (aB 0) (aA (aB 1) (aA (aB 2) (aA (aB 3) aD))))) (xK K A ex)
noncomputable def xO (K:Fg) (A:bG) (ex:aO->aZ):bJ :=
    aR (cF (aV (bZ K A) ex (aA (aB 3) aD))) (xM K A ex)
noncomputable def xP (K:Fg) (A:bG) (ex:aO->aZ):bJ :=
    aR (cF (aV (bT K A) ex (aA (lU A.aC (aB 0) "layout") (aA (aB 2) aD)))) (xO K A ex)
noncomputable def u0 (K:Fg) (A:bG) (ex:aO->aZ):bJ :=
    aR (cF (aV (cH K A) ex (aA (aB 1) (aA (bC (.int 1000)) aD)))) (xP K A ex)
noncomputable def fB (K:Fg) (A:bG):uX:=spD 4 4 fun EX=>u0 K A (fun _=>EX)
noncomputable def abB:CB:=(.cons (.expr (.call 1 (.cons (.var 1) (.cons (.glo 0) .nil)))) (.cons (.expr (.call 3 (.cons (.fld 2 (.var 0)) (.cons (.var 2) .nil)))) (.cons (.expr (.call 4 (.cons (.var 3) .nil))) (.cons (.expr (.rP 5 (.var 0) (.cons (.var 1) (.cons (.var 2) (.cons (.var 3) .nil))))) (.cons (.expr (.call 7 (.cons (.fld 6 (.var 0)) (.cons (.var 2) (.cons (.var 1) (.cons (.neg (.var 3)) .nil)))))) .nil)))))
noncomputable def abC (K:Fg) (A:bG):SI:=⟨["self", "lot", "spot", "amount"],[true,true,true,true],[true,true,true,true],[false,false,false,false],[("MOST_LOTS",.con (.int 1000)),("need_lot",.fn (cH K A) 2 false),("Shelves.layout",.fl A.aC "layout"),("need_bin",.fn (bT K A) 2 false),("need_amount",.fn (bZ K A) 1 false),("Shelves.need_there#3",.me A.aC "need_there" (cC K A) []),("Shelves.stacks",.fl A.aC "stacks"),("change",.fn (eO K A) 4 false)],[true,true,false,true,true,false,false,true],true⟩
noncomputable def qN (K:Fg) (A:bG) (ex:aO->aZ):bJ :=
    (cF (aV (eO K A) ex (aA (lU A.aC (aB 0) "stacks") (aA (aB 3) (aA (aB 1) (aA (aB 4) aD))))))
noncomputable def qO (K:Fg) (A:bG) (ex:aO->aZ):bJ :=
    aR (cF (aV (eO K A) ex (aA (lU A.aC (aB 0) "stacks") (aA (aB 2) (aA (aB 1) (aA (agX (aB 4)) aD)))))) (qN K A ex)
noncomputable def vB (K:Fg) (A:bG) (ex:aO->aZ):bJ :=
    (gR (bB (aG a8V (aB 2) (aB 3))) (aR (cF (jJ A.aC "need_room" (cI K A) [] ex (aB 0) (aA (aB 3) (aA (aB 4) aD)))) (qO K A ex)) cT)
noncomputable def vC (K:Fg) (A:bG) (ex:aO->aZ):bJ :=
    aR (cF (jJ A.aC "need_there" (cC K A) [] ex (aB 0) (aA (aB 1) (aA (aB 2) (aA (aB 4) aD))))) (vB K A ex)
noncomputable def vD (K:Fg) (A:bG) (ex:aO->aZ):bJ :=
    aR (cF (aV (bZ K A) ex (aA (aB 4) aD))) (vC K A ex)
noncomputable def vG (K:Fg) (A:bG) (ex:aO->aZ):bJ :=
    aR (cF (aV (bT K A) ex (aA (lU A.aC (aB 0) "layout") (aA (aB 3) aD)))) (vD K A ex)
noncomputable def vH (K:Fg) (A:bG) (ex:aO->aZ):bJ :=
    aR (cF (aV (bT K A) ex (aA (lU A.aC (aB 0) "layout") (aA (aB 2) aD)))) (vG K A ex)
noncomputable def rD (K:Fg) (A:bG) (ex:aO->aZ):bJ :=
    aR (cF (aV (cH K A) ex (aA (aB 1) (aA (bC (.int 1000)) aD)))) (vH K A ex)
noncomputable def lE (K:Fg) (A:bG):uX:=spD 5 5 fun EX=>rD K A (fun _=>EX)
noncomputable def a8Y:CB:=(.cons (.expr (.call 1 (.cons (.var 1) (.cons (.glo 0) .nil)))) (.cons (.expr (.call 3 (.cons (.fld 2 (.var 0)) (.cons (.var 2) .nil)))) (.cons (.expr (.call 3 (.cons (.fld 2 (.var 0)) (.cons (.var 3) .nil)))) (.cons (.expr (.call 4 (.cons (.var 4) .nil))) (.cons (.expr (.rP 5 (.var 0) (.cons (.var 1) (.cons (.var 2) (.cons (.var 4) .nil))))) (.cons (.ifs (.cmp .NotEq (.var 2) (.var 3)) (.cons (.expr (.rP 6 (.var 0) (.cons (.var 3) (.cons (.var 4) .nil)))) (.cons (.expr (.call 8 (.cons (.fld 7 (.var 0)) (.cons (.var 2) (.cons (.var 1) (.cons (.neg (.var 4)) .nil)))))) (.cons (.expr (.call 8 (.cons (.fld 7 (.var 0)) (.cons (.var 3) (.cons (.var 1) (.cons (.var 4) .nil)))))) .nil))) .nil) .nil))))))
noncomputable def a8Z (K:Fg) (A:bG):SI:=⟨["self", "lot", "one", "other", "amount"],[true,true,true,true,true],[true,true,true,true,true],[false,false,false,false,false],[("MOST_LOTS",.con (.int 1000)),("need_lot",.fn (cH K A) 2 false),("Shelves.layout",.fl A.aC "layout"),("need_bin",.fn (bT K A) 2 false),("need_amount",.fn (bZ K A) 1 false),("Shelves.need_there#3",.me A.aC "need_there" (cC K A) []),("Shelves.need_room#2",.me A.aC "need_room" (cI K A) []),("Shelves.stacks",.fl A.aC "stacks"),("change",.fn (eO K A) 4 false)],[true,true,false,true,true,false,false,false,true],true⟩
noncomputable def a7M (K:Fg) (A:bG) (ex:aO->aZ):bJ :=
    (d7 (a5U (nT (lU A.aC (aB 0) "stacks") (aB 1) vY)))
noncomputable def abD (K:Fg) (A:bG) (ex:aO->aZ):bJ :=
    aR (cF (aV (bT K A) ex (aA (lU A.aC (aB 0) "layout") (aA (aB 1) aD)))) (a7M K A ex)
noncomputable def a90 (K:Fg) (A:bG):uX:=spD 2 2 fun EX=>abD K A (fun _=>EX)
noncomputable def abE:CB:=(.cons (.expr (.call 1 (.cons (.fld 0 (.var 0)) (.cons (.var 1) .nil)))) (.cons (.ret (.sortI 2 (.dgt (.fld 3 (.var 0)) (.var 1) .dct))) .nil))
noncomputable def abF (K:Fg) (A:bG):SI:=⟨["self", "spot"],[true,true],[true,true],[false,false],[("Shelves.layout",.fl A.aC "layout"),("need_bin",.fn (bT K A) 2 false),("sorted",.bf .ae1),("Shelves.stacks",.fl A.aC "stacks")],[false,true,true,false],true⟩
noncomputable def u5 (K:Fg) (A:bG) (ex:aO->aZ):bJ :=
    (d7 (aaC (a71 (lX vA (aA (lU A.aC (aB 0) "stacks") aD))) (bB (aG ahI (aB 2) (aG mX (lU A.aC (aB 1) "stacks") (aB 0)))) (tD (aA (aB 0) (aA (aG mX (aG mX (lU A.aC (aB 1) "stacks") (aB 0)) (aB 2)) aD)))))
noncomputable def oZ (K:Fg) (A:bG) (ex:aO->aZ):bJ :=
    aR (cF (aV (cH K A) ex (aA (aB 1) (aA (bC (.int 1000)) aD)))) (u5 K A ex)
noncomputable def jF (K:Fg) (A:bG):uX:=spD 2 2 fun EX=>oZ K A (fun _=>EX)
noncomputable def a7N:CB:=(.cons (.expr (.call 1 (.cons (.var 1) (.cons (.glo 0) .nil)))) (.cons (.ret (.comp [true,true] [false,false,false,false] (.any (.call 3 (.cons (.fld 2 (.var 0)) .nil))) (.some (.din false (.var 2) (.dix (.fld 2 (.var 1)) (.var 0)))) (.tup (.cons (.var 0) (.cons (.dix (.dix (.fld 2 (.var 1)) (.var 0)) (.var 2)) .nil))))) .nil))
noncomputable def a7O (K:Fg) (A:bG):SI:=⟨["self", "lot"],[true,true],[false,false],[true,true],[("MOST_LOTS",.con (.int 1000)),("need_lot",.fn (cH K A) 2 false),("Shelves.stacks",.fl A.aC "stacks"),("sorted",.bf .ai0)],[true,true,false,true],true⟩
noncomputable def rE (K:Fg) (A:bG) (ex:aO->aZ):bJ :=
    (d7 (aV (a0X K A) ex (aA (lU A.aC (aB 0) "stacks") aD)))
noncomputable def cW (K:Fg) (A:bG):uX:=spD 1 1 fun EX=>rE K A (fun _=>EX)
noncomputable def a91:CB:=(.cons (.ret (.call 1 (.cons (.fld 0 (.var 0)) .nil))) .nil)
noncomputable def a92 (K:Fg) (A:bG):SI:=⟨["self"],[true],[true],[false],[("Shelves.stacks",.fl A.aC "stacks"),("in_order",.fn (a0X K A) 1 false)],[false,true],true⟩
noncomputable def xQ (K:Fg) (A:bG) (ex:aO->aZ):bJ :=
    (d7 (aG dJ (aG fU (aG a0B (aB 2) (aB 2)) (aG a0B (bC (.int 48271)) (aB 1))) (bC (.int 2147483629))))
noncomputable def xR (K:Fg) (A:bG) (ex:aO->aZ):bJ :=
    aR (eU 2 (aG dJ (aG fU (aG a0B (aG iQ (aB 0) (aG dJ (aB 1) (lX a0E (aA (aB 0) aD)))) (bC (.int 48271))) (aG a0B (aB 1) (bC (.int 104729)))) (bC (.int 2147483647)))) (xQ K A ex)
noncomputable def xT (K:Fg) (A:bG) (ex:aO->aZ):bJ :=
    aR (gR (bB (aG a5L (aB 0) (rO aD))) (d7 (bC (.int 0))) cT) (xR K A ex)
noncomputable def u6 (K:Fg) (A:bG) (ex:aO->aZ):bJ :=
    aR (gR (bB (aG ao5 (aB 1) (lX a0E (aA (aB 0) aD)))) (d7 (aG iQ (aB 0) (aB 1))) cT) (xT K A ex)
noncomputable def aY (K:Fg) (A:bG):uX:=spD 3 2 fun EX=>u6 K A (fun _=>EX)
noncomputable def abG:CB:=(.cons (.ifs (.cmp .Lt (.var 1) (.call 0 (.cons (.var 0) .nil))) (.cons (.ret (.ix (.var 0) (.var 1))) .nil) .nil) (.cons (.ifs (.cmp .Eq (.var 0) (.lst .nil)) (.cons (.ret (.con (.int 0))) .nil) .nil) (.cons (.set 2 (.bin .Mod (.bin .Add (.bin .Mult (.ix (.var 0) (.bin .Mod (.var 1) (.call 0 (.cons (.var 0) .nil)))) (.con (.int 48271))) (.bin .Mult (.var 1) (.con (.int 104729)))) (.con (.int 2147483647)))) (.cons (.ret (.bin .Mod (.bin .Add (.bin .Mult (.var 2) (.var 2)) (.bin .Mult (.con (.int 48271)) (.var 1))) (.con (.int 2147483629)))) .nil))))
noncomputable def abH (K:Fg) (A:bG):SI:=⟨["_law_script", "_law_k", "_law_mixed"],[true,true,true],[true,true,true],[false,false,false],[("len",.bf .len)],[true],true⟩
noncomputable def a3E (K:Fg) (A:bG) (ex:aO->aZ):bJ :=
    (d7 (tD (aA (aB 4) (aA (aB 5) (aA (aG fU (bC (.int 1)) (aG dJ (aG fL (aB 2) (bC (.int 104))) (bC (.int 20)))) aD)))))
noncomputable def a3F (K:Fg) (A:bG) (ex:aO->aZ):bJ :=
    aR (eU 5 (aG iQ (rO (aA (aG fU (bC (.int 1)) (aG dJ (aB 3) (bC (.int 6)))) (aA (aG fU (bC (.int 1)) (aG dJ (aB 3) (bC (.int 99)))) aD))) (lX adP (aA (aG a5L (aG dJ (aG fL (aB 3) (bC (.int 99))) (bC (.int 4))) (bC (.int 1))) aD)))) (a3E K A ex)
noncomputable def a3G (K:Fg) (A:bG) (ex:aO->aZ):bJ :=
    aR (eU 4 (aG iQ (rO (aA (aG fU (bC (.int 1)) (aG dJ (aB 2) (bC (.int 4)))) (aA (aG fU (bC (.int 1)) (aG dJ (aB 2) (bC (.int 26)))) aD))) (lX adP (aA (aG a5L (aG dJ (aG fL (aB 2) (bC (.int 26))) (bC (.int 4))) (bC (.int 1))) aD)))) (a3F K A ex)
noncomputable def a3H (K:Fg) (A:bG) (ex:aO->aZ):bJ :=
    aR (eU 3 (aV (aY K A) ex (aA (aB 0) (aA (aG fU (aB 1) (bC (.int 1))) aD)))) (a3G K A ex)
noncomputable def a1A (K:Fg) (A:bG) (ex:aO->aZ):bJ :=
    aR (eU 2 (aV (aY K A) ex (aA (aB 0) (aA (aB 1) aD)))) (a3H K A ex)
noncomputable def sI (K:Fg) (A:bG):uX:=spD 6 2 fun EX=>a1A K A (fun _=>EX)
noncomputable def aiK:CB:=(.cons (.set 2 (.call 0 (.cons (.var 0) (.cons (.var 1) .nil)))) (.cons (.set 3 (.call 0 (.cons (.var 0) (.cons (.bin .Add (.var 1) (.con (.int 1))) .nil)))) (.cons (.set 4 (.ix (.lst (.cons (.bin .Add (.con (.int 1)) (.bin .Mod (.var 2) (.con (.int 4)))) (.cons (.bin .Add (.con (.int 1)) (.bin .Mod (.var 2) (.con (.int 26)))) .nil))) (.call 1 (.cons (.cmp .Eq (.bin .Mod (.bin .FloorDiv (.var 2) (.con (.int 26))) (.con (.int 4))) (.con (.int 1))) .nil)))) (.cons (.set 5 (.ix (.lst (.cons (.bin .Add (.con (.int 1)) (.bin .Mod (.var 3) (.con (.int 6)))) (.cons (.bin .Add (.con (.int 1)) (.bin .Mod (.var 3) (.con (.int 99)))) .nil))) (.call 1 (.cons (.cmp .Eq (.bin .Mod (.bin .FloorDiv (.var 3) (.con (.int 99))) (.con (.int 4))) (.con (.int 1))) .nil)))) (.cons (.ret (.tup (.cons (.var 4) (.cons (.var 5) (.cons (.bin .Add (.con (.int 1)) (.bin .Mod (.bin .FloorDiv (.var 2) (.con (.int 104))) (.con (.int 20)))) .nil))))) .nil)))))
noncomputable def aiL (K:Fg) (A:bG):SI:=⟨["_law_script", "_law_k", "_law_cell", "_law_other", "_law_aisles", "_law_places"],[true,true,true,true,true,true],[true,true,true,true,true,true],[false,false,false,false,false,false],[("_law_cell_at",.fn (aY K A) 2 false),("int",.bt "int")],[true,true],true⟩
noncomputable def a01 (K:Fg) (A:bG) (ex:aO->aZ):bJ :=
    (d7 (tD (aA (bC (.str "refused")) (aA (tM3 "list" wW (aB 1) (aA (bC (.bl true)) aD)) aD))))
noncomputable def a02 (K:Fg) (A:bG) (ex:aO->aZ):bJ :=
    aR (gR (aa2 (wO (bB (lX (aF K) (aA (aB 0) (aA (bC (.ty "ValueError")) aD))))) (bB (aG a8V (lX a0E (aA (aaC (a71 (aB 1)) (bB (aB 0)) (aB 0)) aD)) (bC (.int 1))))) (d7 (tD (aA (bC (.str "other")) (aA (bC (.int 7)) aD)))) cT) (a01 K A ex)
noncomputable def a03 (K:Fg) (A:bG) (ex:aO->aZ):bJ :=
    aR (eU 1 (aG fU (aB 1) (rO (aA (lX (aF K) (aA (aB 0) (aA (bC (.ref A.aN)) aD))) (aA (lX (aF K) (aA (aB 0) (aA (bC (.ref A.bL)) aD))) aD))))) (a02 K A ex)
noncomputable def wF (K:Fg) (A:bG) (ex:aO->aZ):bJ :=
    aR (eU 1 (rO (aA (lX (aF K) (aA (aB 0) (aA (bC (.ref A.gK)) aD))) (aA (lX (aF K) (aA (aB 0) (aA (bC (.ref A.lD)) aD))) (aA (lX (aF K) (aA (aB 0) (aA (bC (.ref A.lC)) aD))) (aA (lX (aF K) (aA (aB 0) (aA (bC (.ref A.cV)) aD))) aD)))))) (a03 K A ex)
noncomputable def gM (K:Fg) (A:bG):uX:=spD 2 1 fun EX=>wF K A (fun _=>EX)
noncomputable def acU:CB:=(.cons (.set 1 (.lst (.cons (.call 1 (.cons (.var 0) (.cons (.glo 0) .nil))) (.cons (.call 1 (.cons (.var 0) (.cons (.glo 2) .nil))) (.cons (.call 1 (.cons (.var 0) (.cons (.glo 3) .nil))) (.cons (.call 1 (.cons (.var 0) (.cons (.glo 4) .nil))) .nil)))))) (.cons (.set 1 (.bin .Add (.var 1) (.lst (.cons (.call 1 (.cons (.var 0) (.cons (.glo 5) .nil))) (.cons (.call 1 (.cons (.var 0) (.cons (.glo 6) .nil))) .nil))))) (.cons (.ifs (.or (.cons (.not (.val (.call 1 (.cons (.var 0) (.cons (.glo 7) .nil))))) (.cons (.cmp .NotEq (.call 8 (.cons (.comp [false,false] [false,false,false,false,false,false,false,false,false] (.any (.var 1)) (.some (.val (.var 0))) (.var 0)) .nil)) (.con (.int 1))) .nil))) (.cons (.ret (.tup (.cons (.con (.str "other")) (.cons (.con (.int 7)) .nil)))) .nil) .nil) (.cons (.ret (.tup (.cons (.con (.str "refused")) (.cons (.meth .a7C (.var 1) (.cons (.con (.bl true)) .nil)) .nil)))) .nil))))
noncomputable def acV (K:Fg) (A:bG):SI:=⟨["_law_e", "_law_marks"],[true,true],[true,true],[false,false],[("NoPlan",.cls A.gK),("isinstance",.bf .isi),("NoLot",.cls A.lD),("NoBin",.cls A.lC),("NoAmount",.cls A.cV),("TooLittle",.cls A.aN),("NoRoom",.cls A.bL),("ValueError",.bt "ValueError"),("len",.bf .len)],[true,true,true,true,true,true,true,true,true],false⟩
noncomputable def xU (K:Fg) (A:bG) (ex:aO->aZ):bJ :=
    (d7 (jJ A.aC "shift" (lE K A) [] ex (aB 0) (aA (aB 3) (aA (aB 4) (aA (aB 5) (aA (aB 6) aD))))))
noncomputable def p8 (K:Fg) (A:bG) (ex:aO->aZ):bJ :=
    aR (gR (bB (aG a5L (aB 2) (bC (.str "take")))) (d7 (jJ A.aC "take" (fB K A) [] ex (aB 0) (aA (aB 3) (aA (aB 4) (aA (aB 6) aD))))) cT) (xU K A ex)
noncomputable def pQ (K:Fg) (A:bG) (ex:aO->aZ):bJ :=
    (agV K A.dZ 7 (fun EX2=>aR (gR (bB (aG a5L (aB 2) (bC (.str "put")))) (d7 (jJ A.aC "put" (jR K A) [] EX2 (aB 0) (aA (aB 3) (aA (aB 4) (aA (aB 6) aD))))) cT) (p8 K A EX2)) (d7 (aV (gM K A) NoX (aA (aB 7) aD))))
noncomputable def a1B (K:Fg) (A:bG) (ex:aO->aZ):bJ :=
    aR (aaF [2,3,4,5,6] (aB 1)) (pQ K A ex)
noncomputable def sJ (K:Fg) (A:bG):uX:=spD 8 2 fun EX=>a1B K A (fun _=>EX)
noncomputable def aiM:CB:=(.cons (.asY [2,3,4,5,6] (.var 1)) (.cons (.ay6 0 7 (.cons (.ifs (.cmp .Eq (.var 2) (.con (.str "put"))) (.cons (.ret (.rP 1 (.var 0) (.cons (.var 3) (.cons (.var 4) (.cons (.var 6) .nil))))) .nil) .nil) (.cons (.ifs (.cmp .Eq (.var 2) (.con (.str "take"))) (.cons (.ret (.rP 2 (.var 0) (.cons (.var 3) (.cons (.var 4) (.cons (.var 6) .nil))))) .nil) .nil) (.cons (.ret (.rP 3 (.var 0) (.cons (.var 3) (.cons (.var 4) (.cons (.var 5) (.cons (.var 6) .nil)))))) .nil))) (.cons (.ret (.call 4 (.cons (.var 7) .nil))) .nil)) .nil))
noncomputable def aiN (K:Fg) (A:bG):SI:=⟨["_law_shelves", "_law_deed_here", "_law_word", "_law_lot", "_law_one", "_law_other", "_law_amount", "_law_e"],[true,true,true,true,true,true,true,true],[true,true,true,true,true,true,true,true],[false,false,false,false,false,false,false,false],[("DepotError",.cls A.dZ),("Shelves.put#3",.me A.aC "put" (jR K A) []),("Shelves.take#3",.me A.aC "take" (fB K A) []),("Shelves.shift#4",.me A.aC "shift" (lE K A) []),("_law_raised",.fn (gM K A) 1 true)],[true,false,false,false,true],true⟩
noncomputable def a1C (K:Fg) (A:bG) (ex:aO->aZ):bJ :=
    (d7 (rO (aA (aB 3) (aA (aB 4) (aA (aB 5) (aA (tD (aA (aG dJ (aG fL (aB 2) (bC (.int 7))) (aG iQ (aB 1) (bC (.int 0)))) (aA (aG fU (bC (.int 1)) (aG dJ (aG fL (aB 2) (bC (.int 11))) (aG iQ (aB 1) (bC (.int 1))))) aD))) aD))))))
noncomputable def a1D (K:Fg) (A:bG) (ex:aO->aZ):bJ :=
    aR (eU 5 (tD (aA (aG dJ (aG fL (aB 2) (bC (.int 260000))) (aG iQ (aB 1) (bC (.int 0)))) (aA (aG iQ (aB 3) (bC (.int 1))) aD)))) (a1C K A ex)
noncomputable def a1E (K:Fg) (A:bG) (ex:aO->aZ):bJ :=
    aR (eU 4 (tD (aA (aG iQ (aB 3) (bC (.int 0))) (aA (aG fU (bC (.int 1)) (aG dJ (aG fL (aB 2) (bC (.int 2600))) (aG iQ (aB 1) (bC (.int 1))))) aD)))) (a1D K A ex)
noncomputable def a1F (K:Fg) (A:bG) (ex:aO->aZ):bJ :=
    aR (eU 3 (tD (aA (aG dJ (aB 2) (aG iQ (aB 1) (bC (.int 0)))) (aA (aG fU (bC (.int 1)) (aG dJ (aG fL (aB 2) (bC (.int 26))) (aG iQ (aB 1) (bC (.int 1))))) aD)))) (a1E K A ex)
noncomputable def yX (K:Fg) (A:bG) (ex:aO->aZ):bJ :=
    aR (eU 2 (aV (aY K A) ex (aA (aB 0) (aA (bC (.int 3)) aD)))) (a1F K A ex)
noncomputable def pR (K:Fg) (A:bG):uX:=spD 6 2 fun EX=>yX K A (fun _=>EX)
noncomputable def afS:CB:=(.cons (.set 2 (.call 0 (.cons (.var 0) (.cons (.con (.int 3)) .nil)))) (.cons (.set 3 (.tup (.cons (.bin .Mod (.var 2) (.ix (.var 1) (.con (.int 0)))) (.cons (.bin .Add (.con (.int 1)) (.bin .Mod (.bin .FloorDiv (.var 2) (.con (.int 26))) (.ix (.var 1) (.con (.int 1))))) .nil)))) (.cons (.set 4 (.tup (.cons (.ix (.var 3) (.con (.int 0))) (.cons (.bin .Add (.con (.int 1)) (.bin .Mod (.bin .FloorDiv (.var 2) (.con (.int 2600))) (.ix (.var 1) (.con (.int 1))))) .nil)))) (.cons (.set 5 (.tup (.cons (.bin .Mod (.bin .FloorDiv (.var 2) (.con (.int 260000))) (.ix (.var 1) (.con (.int 0)))) (.cons (.ix (.var 3) (.con (.int 1))) .nil)))) (.cons (.ret (.lst (.cons (.var 3) (.cons (.var 4) (.cons (.var 5) (.cons (.tup (.cons (.bin .Mod (.bin .FloorDiv (.var 2) (.con (.int 7))) (.ix (.var 1) (.con (.int 0)))) (.cons (.bin .Add (.con (.int 1)) (.bin .Mod (.bin .FloorDiv (.var 2) (.con (.int 11))) (.ix (.var 1) (.con (.int 1))))) .nil))) .nil)))))) .nil)))))
noncomputable def afT (K:Fg) (A:bG):SI:=⟨["_law_script", "_law_plan_here", "_law_cell", "_law_one", "_law_other", "_law_third"],[true,true,true,true,true,true],[true,true,true,true,true,true],[false,false,false,false,false,false],[("_law_cell_at",.fn (aY K A) 2 false)],[true],true⟩
noncomputable def a3I (K:Fg) (A:bG) (ex:aO->aZ):bJ :=
    (d7 (tD (aA (aB 6) (aA (aG iQ (aB 7) (aG dJ (aG fL (aB 4) (bC (.int 5))) (bC (.int 5)))) (aA (aG iQ (aB 2) (aG dJ (aG fL (aB 4) (bC (.int 25))) (bC (.int 4)))) (aA (aG iQ (aB 2) (aG dJ (aG fL (aB 4) (bC (.int 100))) (bC (.int 4)))) (aA (lX af4 (aA (aB 8) (aA (aG adJ (bC (.int 10)) (bC (.int 6))) aD))) aD)))))))
noncomputable def a3J (K:Fg) (A:bG) (ex:aO->aZ):bJ :=
    aR (eU 8 (aG iQ (rO (aA (aG fU (bC (.int 1)) (aG dJ (aG fL (aB 5) (bC (.int 7))) (lX af3 (aA (bC (.int 1)) (aA (aG fL (aB 3) (bC (.int 2))) aD))))) (aA (aG fU (bC (.int 1)) (aG dJ (aG fL (aB 5) (bC (.int 7))) (aB 3))) (aA (bC (.int 1)) (aA (aB 3) aD))))) (aG dJ (aB 5) (bC (.int 4))))) (a3I K A ex)
noncomputable def a3K (K:Fg) (A:bG) (ex:aO->aZ):bJ :=
    aR (eU 7 (rO (aA (aG dJ (aV (aY K A) ex (aA (aB 0) (aA (bC (.int 4)) aD))) (bC (.int 1000))) (aA (aG dJ (aV (aY K A) ex (aA (aB 0) (aA (bC (.int 5)) aD))) (bC (.int 1000))) (aA (bC (.int 0)) (aA (bC (.int 999)) (aA (bC (.int 7)) aD))))))) (a3J K A ex)
noncomputable def a3L (K:Fg) (A:bG) (ex:aO->aZ):bJ :=
    aR (eU 6 (aG iQ (rO (aA (bC (.str "put")) (aA (bC (.str "put")) (aA (bC (.str "take")) (aA (bC (.str "shift")) (aA (bC (.str "shift")) aD)))))) (aG dJ (aB 4) (bC (.int 5))))) (a3K K A ex)
noncomputable def a3M (K:Fg) (A:bG) (ex:aO->aZ):bJ :=
    aR (eU 5 (aV (aY K A) ex (aA (aB 0) (aA (aG fU (bC (.int 11)) (aG a0B (bC (.int 2)) (aB 1))) aD)))) (a3L K A ex)
noncomputable def a1G (K:Fg) (A:bG) (ex:aO->aZ):bJ :=
    aR (eU 4 (aV (aY K A) ex (aA (aB 0) (aA (aG fU (bC (.int 10)) (aG a0B (bC (.int 2)) (aB 1))) aD)))) (a3M K A ex)
noncomputable def sO (K:Fg) (A:bG):uX:=spD 9 4 fun EX=>a1G K A (fun _=>EX)
noncomputable def aiO:CB:=(.cons (.set 4 (.call 0 (.cons (.var 0) (.cons (.bin .Add (.con (.int 10)) (.bin .Mult (.con (.int 2)) (.var 1))) .nil)))) (.cons (.set 5 (.call 0 (.cons (.var 0) (.cons (.bin .Add (.con (.int 11)) (.bin .Mult (.con (.int 2)) (.var 1))) .nil)))) (.cons (.set 6 (.ix (.lst (.cons (.con (.str "put")) (.cons (.con (.str "put")) (.cons (.con (.str "take")) (.cons (.con (.str "shift")) (.cons (.con (.str "shift")) .nil)))))) (.bin .Mod (.var 4) (.con (.int 5))))) (.cons (.set 7 (.lst (.cons (.bin .Mod (.call 0 (.cons (.var 0) (.cons (.con (.int 4)) .nil))) (.con (.int 1000))) (.cons (.bin .Mod (.call 0 (.cons (.var 0) (.cons (.con (.int 5)) .nil))) (.con (.int 1000))) (.cons (.con (.int 0)) (.cons (.con (.int 999)) (.cons (.con (.int 7)) .nil))))))) (.cons (.set 8 (.ix (.lst (.cons (.bin .Add (.con (.int 1)) (.bin .Mod (.bin .FloorDiv (.var 5) (.con (.int 7))) (.call 1 (.cons (.con (.int 1)) (.cons (.bin .FloorDiv (.var 3) (.con (.int 2))) .nil))))) (.cons (.bin .Add (.con (.int 1)) (.bin .Mod (.bin .FloorDiv (.var 5) (.con (.int 7))) (.var 3))) (.cons (.con (.int 1)) (.cons (.var 3) .nil))))) (.bin .Mod (.var 5) (.con (.int 4))))) (.cons (.ret (.tup (.cons (.var 6) (.cons (.ix (.var 7) (.bin .Mod (.bin .FloorDiv (.var 4) (.con (.int 5))) (.con (.int 5)))) (.cons (.ix (.var 2) (.bin .Mod (.bin .FloorDiv (.var 4) (.con (.int 25))) (.con (.int 4)))) (.cons (.ix (.var 2) (.bin .Mod (.bin .FloorDiv (.var 4) (.con (.int 100))) (.con (.int 4)))) (.cons (.call 2 (.cons (.var 8) (.cons (.bin .Pow (.con (.int 10)) (.con (.int 6))) .nil))) .nil))))))) .nil))))))
noncomputable def aiP (K:Fg) (A:bG):SI:=⟨["_law_script", "_law_k", "_law_spots_here", "_law_room", "_law_cell", "_law_more", "_law_word", "_law_lots", "_law_amount"],[true,true,true,true,true,true,true,true,true],[true,true,true,true,true,true,true,true,true],[false,false,false,false,false,false,false,false,false],[("_law_cell_at",.fn (aY K A) 2 false),("max",.bf .max),("min",.bf .min)],[true,true,true],true⟩
noncomputable def nH (K:Fg) (A:bG) (ex:aO->aZ):bJ :=
    (a3V (aB 4) (aB 6) (aG fU (nT (aB 4) (aB 6) (bC (.int 0))) (aB 7)))
noncomputable def oM (K:Fg) (A:bG) (ex:aO->aZ):bJ :=
    aR (gR (bB (aG ao5 (aB 7) (bC (.int 1)))) (d7 (bC (.bl false))) cT) (nH K A ex)
noncomputable def jU (K:Fg) (A:bG) (ex:aO->aZ):bJ :=
    (a2D (sG false (aG mX (aB 3) (aB 5))) (aaD [6,7]) (oM K A ex))
noncomputable def u9 (K:Fg) (A:bG) (ex:aO->aZ):bJ :=
    aR (gR (aa2 (bB (aG aqH (lX ah9 (aA (a9L (aG mX (aB 3) (aB 5))) aD)) (aB 2))) (bB (aG (aaS false) (aG mX (aB 3) (aB 5)) vY))) (d7 (bC (.bl false))) cT) (jU K A ex)
noncomputable def uD (K:Fg) (A:bG) (ex:aO->aZ):bJ :=
    (gR (aa2 (bB (aG a8V (nT (aB 4) (aB 6) (bC (.int 0))) (aG mX (aB 1) (aB 6)))) (bB (aG a8V (lX ah9 (aA (aaC (a71 (jJ A.aC "places" (jF K A) [] ex (aB 0) (aA (aB 6) aD))) af0 (aG iQ (aB 0) (bC (.int 1)))) aD)) (aG mX (aB 1) (aB 6))))) (d7 (bC (.bl false))) cT)
noncomputable def vI (K:Fg) (A:bG) (ex:aO->aZ):bJ :=
    (am7 6 (d7 (aG a5L (aaC (tK true (aB 4)) (bB (aG aaM (aB 0) (aB 2))) (aB 0)) (rO aD))))
noncomputable def jG (K:Fg) (A:bG) (ex:aO->aZ):bJ :=
    aR (a2D (tK false (aB 1)) (a3U 6) (uD K A ex)) (vI K A ex)
noncomputable def nZ (K:Fg) (A:bG) (ex:aO->aZ):bJ :=
    aR (a2D (tK false (aB 3)) (a3U 5) (u9 K A ex)) (jG K A ex)
noncomputable def vJ (K:Fg) (A:bG) (ex:aO->aZ):bJ :=
    aR (eU 4 vY) (nZ K A ex)
noncomputable def rF (K:Fg) (A:bG) (ex:aO->aZ):bJ :=
    aR (eU 3 (jJ A.aC "lying" (cW K A) [] ex (aB 0) aD)) (vJ K A ex)
noncomputable def lF (K:Fg) (A:bG):uX:=spD 8 3 fun EX=>rF K A (fun _=>EX)
noncomputable def a93:CB:=(.cons (.set 3 (.rP 0 (.var 0) .nil)) (.cons (.set 4 .dct) (.cons (.aoW (.keys (.var 3)) (.nm 5) (.cons (.ifs (.or (.cons (.cmp .Gt (.call 2 (.cons (.amJ 1 (.dix (.var 3) (.var 5))) .nil)) (.var 2)) (.cons (.deq false (.dix (.var 3) (.var 5)) .dct) .nil))) (.cons (.ret (.con (.bl false))) .nil) .nil) (.cons (.aoW (.items (.dix (.var 3) (.var 5))) (.tup [6,7]) (.cons (.ifs (.cmp .Lt (.var 7) (.con (.int 1))) (.cons (.ret (.con (.bl false))) .nil) .nil) (.cons (.akQ (.var 4) (.var 6) (.bin .Add (.dgt (.var 4) (.var 6) (.con (.int 0))) (.var 7))) .nil))) .nil))) (.cons (.aoW (.keys (.var 1)) (.nm 6) (.cons (.ifs (.or (.cons (.cmp .NotEq (.dgt (.var 4) (.var 6) (.con (.int 0))) (.dix (.var 1) (.var 6))) (.cons (.cmp .NotEq (.call 2 (.cons (.comp [false,false,false,false,false,false,false,false] [false,false,false,false] (.any (.rP 3 (.var 0) (.cons (.var 6) .nil))) .none (.ix (.var 0) (.con (.int 1)))) .nil)) (.dix (.var 1) (.var 6))) .nil))) (.cons (.ret (.con (.bl false))) .nil) .nil) .nil)) (.cons (.hid 6 "-" (.ret (.cmp .Eq (.comp [false,true,false,false,false,false,false,false] [false,false,false,false] (.keys (.var 4)) (.some (.din true (.var 0) (.var 2))) (.var 0)) (.lst .nil)))) .nil)))))
noncomputable def a94 (K:Fg) (A:bG):SI:=⟨["_law_shelves", "_law_left", "_law_room", "_law_lying", "_law_sums", "_law_spot", "_law_lot", "_law_amount"],[true,true,true,true,true,true,true,true],[true,false,true,true,true,true,true,true],[false,true,false,false,false,false,false,false],[("Shelves.lying#0",.me A.aC "lying" (cW K A) []),("list",.bt "list"),("sum",.bf .sum),("Shelves.places#1",.me A.aC "places" (jF K A) [])],[false,true,true,false],true⟩
noncomputable def a4J (K:Fg) (A:bG) (ex:aO->aZ):bJ :=
    (gR (wO (bB (aV (lF K A) ex (aA (aB 5) (aA (aB 6) (aA (aB 3) aD)))))) (d7 (bC (.bl false))) cT)
noncomputable def pA (K:Fg) (A:bG) (ex:aO->aZ):bJ :=
    aR (gR (adH (bB (aG ao7 (aB 14) (bC .non))) (bB (aG a8V (aB 8) (bC (.str "shift"))))) (a3V (aB 6) (aB 9) (aG fU (nT (aB 6) (aB 9) (bC (.int 0))) (aG iQ (rO (aA (aB 12) (aA (aG adI (bC (.int 0)) (aB 12)) aD))) (lX adP (aA (aG a5L (aB 8) (bC (.str "take"))) aD))))) cT) (a4J K A ex)
noncomputable def a4K (K:Fg) (A:bG) (ex:aO->aZ):bJ :=
    aR (gR (adH (bB (aG aa3 (aB 14) (bC .non))) (aa2 (bB (aG ae0 (aB 14) (rO (aA (tD (aA (bC (.str "refused")) (aA (bC (.int 4)) aD))) (aA (tD (aA (bC (.str "refused")) (aA (bC (.int 5)) aD))) aD))))) (bB (aG (aaS true) (jJ A.aC "lying" (cW K A) [] ex (aB 5) aD) (aB 13))))) (d7 (bC (.bl false))) cT) (pA K A ex)
noncomputable def abI (K:Fg) (A:bG) (ex:aO->aZ):bJ :=
    aR (eU 14 (aV (sJ K A) ex (aA (aB 5) (aA (tD (aA (aB 8) (aA (aB 9) (aA (aB 10) (aA (aB 11) (aA (aB 12) aD)))))) aD)))) (a4K K A ex)
noncomputable def abJ (K:Fg) (A:bG) (ex:aO->aZ):bJ :=
    aR (eU 13 (jJ A.aC "lying" (cW K A) [] ex (aB 5) aD)) (abI K A ex)
noncomputable def abK (K:Fg) (A:bG) (ex:aO->aZ):bJ :=
    aR (aaF [8,9,10,11,12] (aV (sO K A) ex (aA (aB 0) (aA (aB 7) (aA (aB 4) (aA (aB 3) aD)))))) (abJ K A ex)
noncomputable def amX (K:Fg) (A:bG) (ex:aO->aZ):bJ :=
    (d7 (bC (.bl true)))
noncomputable def amY (K:Fg) (A:bG) (ex:aO->aZ):bJ :=
    aR (aaE (a72 (aA (aG dJ (aV (aY K A) ex (aA (aB 0) (aA (bC (.int 6)) aD))) (bC (.int 25))) aD)) (a3U 7) (abK K A ex)) (amX K A ex)
noncomputable def amZ (K:Fg) (A:bG) (ex:aO->aZ):bJ :=
    aR (eU 6 vY) (amY K A ex)
noncomputable def an0 (K:Fg) (A:bG) (ex:aO->aZ):bJ :=
    aR (eU 5 (aaI A.aC (fV K A) [] ex (aA (aB 1) (aA (aB 3) aD)))) (amZ K A ex)
noncomputable def an1 (K:Fg) (A:bG) (ex:aO->aZ):bJ :=
    aR (eU 4 (aV (pR K A) ex (aA (aB 0) (aA (aB 1) aD)))) (an0 K A ex)
noncomputable def an2 (K:Fg) (A:bG) (ex:aO->aZ):bJ :=
    aR (eU 3 (aG iQ (rO (aA (aG fU (bC (.int 1)) (aG dJ (aG fL (aB 2) (bC (.int 3))) (bC (.int 30)))) (aA (aG fU (bC (.int 1)) (aG dJ (aG fL (aB 2) (bC (.int 3))) (bC (.int 30)))) (aA (aG fU (bC (.int 1)) (aG dJ (aG fL (aB 2) (bC (.int 3))) (aG adJ (bC (.int 10)) (bC (.int 6))))) aD)))) (aG dJ (aB 2) (bC (.int 3))))) (an1 K A ex)
noncomputable def an3 (K:Fg) (A:bG) (ex:aO->aZ):bJ :=
    aR (eU 2 (aV (aY K A) ex (aA (aB 0) (aA (bC (.int 2)) aD)))) (an2 K A ex)
noncomputable def auB (K:Fg) (A:bG) (ex:aO->aZ):bJ :=
    aR (eU 1 (aV (sI K A) ex (aA (aB 0) (aA (bC (.int 0)) aD)))) (an3 K A ex)
noncomputable def afU (K:Fg) (A:bG):uX:=spD 15 1 fun EX=>auB K A (fun _=>EX)
noncomputable def aiQ:CB:=(.cons (.set 1 (.call 0 (.cons (.var 0) (.cons (.con (.int 0)) .nil)))) (.cons (.set 2 (.call 1 (.cons (.var 0) (.cons (.con (.int 2)) .nil)))) (.cons (.set 3 (.ix (.lst (.cons (.bin .Add (.con (.int 1)) (.bin .Mod (.bin .FloorDiv (.var 2) (.con (.int 3))) (.con (.int 30)))) (.cons (.bin .Add (.con (.int 1)) (.bin .Mod (.bin .FloorDiv (.var 2) (.con (.int 3))) (.con (.int 30)))) (.cons (.bin .Add (.con (.int 1)) (.bin .Mod (.bin .FloorDiv (.var 2) (.con (.int 3))) (.bin .Pow (.con (.int 10)) (.con (.int 6))))) .nil)))) (.bin .Mod (.var 2) (.con (.int 3))))) (.cons (.set 4 (.call 2 (.cons (.var 0) (.cons (.var 1) .nil)))) (.cons (.set 5 (.call 3 (.cons (.var 1) (.cons (.var 3) .nil)))) (.cons (.set 6 .dct) (.cons (.asW (.akN (.bin .Mod (.call 1 (.cons (.var 0) (.cons (.con (.int 6)) .nil))) (.con (.int 25)))) (.nm 7) (.cons (.asY [8,9,10,11,12] (.call 5 (.cons (.var 0) (.cons (.var 7) (.cons (.var 4) (.cons (.var 3) .nil)))))) (.cons (.set 13 (.rP 6 (.var 5) .nil)) (.cons (.set 14 (.call 7 (.cons (.var 5) (.cons (.tup (.cons (.var 8) (.cons (.var 9) (.cons (.var 10) (.cons (.var 11) (.cons (.var 12) .nil)))))) .nil)))) (.cons (.ifs (.and (.cons (.cmp .IsNot (.var 14) (.con .non)) (.cons (.or (.cons (.ntu (.var 14) (.lst (.cons (.tup (.cons (.con (.str "refused")) (.cons (.con (.int 4)) .nil))) (.cons (.tup (.cons (.con (.str "refused")) (.cons (.con (.int 5)) .nil))) .nil)))) (.cons (.deq true (.rP 6 (.var 5) .nil) (.var 13)) .nil))) .nil))) (.cons (.ret (.con (.bl false))) .nil) .nil) (.cons (.ifs (.and (.cons (.cmp .Is (.var 14) (.con .non)) (.cons (.cmp .NotEq (.var 8) (.con (.str "shift"))) .nil))) (.cons (.akQ (.var 6) (.var 9) (.bin .Add (.dgt (.var 6) (.var 9) (.con (.int 0))) (.ix (.lst (.cons (.var 12) (.cons (.bin .Sub (.con (.int 0)) (.var 12)) .nil))) (.call 8 (.cons (.cmp .Eq (.var 8) (.con (.str "take"))) .nil))))) .nil) .nil) (.cons (.ifs (.not (.val (.call 9 (.cons (.var 5) (.cons (.var 6) (.cons (.var 3) .nil)))))) (.cons (.ret (.con (.bl false))) .nil) .nil) .nil))))))) (.cons (.ret (.con (.bl true))) .nil))))))))
noncomputable def aKQ (K:Fg) (A:bG):SI:=⟨["_law_script", "_law_plan_here", "_law_cell", "_law_room", "_law_spots_here", "_law_shelves", "_law_left", "_law_k", "_law_word", "_law_lot", "_law_one", "_law_other", "_law_amount", "_law_ahead", "_law_found"],[true,true,true,true,true,true,true,true,true,true,true,true,true,true,true],[true,true,true,true,true,true,true,true,true,true,true,true,true,true,true],[false,false,false,false,false,false,false,false,false,false,false,false,false,false,false],[("_law_plan",.fn (sI K A) 2 false),("_law_cell_at",.fn (aY K A) 2 false),("_law_spots",.fn (pR K A) 2 false),("Shelves",.kl A.aC (fV K A) []),("range",.bt "range"),("_law_deed",.fn (sO K A) 4 false),("Shelves.lying#0",.me A.aC "lying" (cW K A) []),("_law_done",.fn (sJ K A) 2 false),("int",.bt "int"),("_law_balanced",.fn (lF K A) 3 false)],[true,true,true,true,true,true,false,true,true,true],true⟩
structure Txt (K:Fg) (mg:Str->Option Value) (A:bG):Prop where
  jV:yG K "is_whole" "is_whole" ab2 A.a4A A.tQ
  mZ:Binds K A.tQ ["thing", "least", "most"] []
  n6:mg "is_whole" = some (.ref A.a4A)
  xV:yG K "is_pair" "is_pair" ae8 A.a7G A.xF
  a2G:Binds K A.xF ["thing", "aisles", "first", "last"] []
  a2H:mg "is_pair" = some (.ref A.a7G)
  qP:yG K "is_amount" "is_amount" a8F A.a0N A.qD
  vK:Binds K A.qD ["thing"] []
  vL:mg "is_amount" = some (.ref A.a0N)
  xW:yG K "is_plan" "is_plan" ae9 A.a7H A.xG
  a2I:Binds K A.xG ["thing"] []
  a2J:mg "is_plan" = some (.ref A.a7H)
  nJ:yG K "need_plan" "need_plan" a8G A.a0O A.qF
  qQ:Binds K A.qF ["plan"] []
  qR:mg "need_plan" = some (.ref A.a0O)
  a1H:yG K "is_bin" "is_bin" aiD A.ab6 A.a0P
  a6A:Binds K A.a0P ["plan", "thing"] []
  a6B:mg "is_bin" = some (.ref A.ab6)
  iB:yG K "need_lot" "need_lot" ab3 A.a4B A.tR
  jW:Binds K A.tR ["thing", "lots"] []
  jX:mg "need_lot" = some (.ref A.a4B)
  fO:yG K "need_bin" "need_bin" ab4 A.a4C A.tU
  iC:Binds K A.tU ["plan", "thing"] []
  iD:mg "need_bin" = some (.ref A.a4C)
  eE:yG K "need_amount" "need_amount" a3A A.wA A.mD
  fP:Binds K A.mD ["thing"] []
  fQ:mg "need_amount" = some (.ref A.wA)
  uE:yG K "change" "change" aiE A.ab7 A.a0Q
  xX:Binds K A.a0Q ["stacks", "spot", "lot", "more"] []
  xY:mg "change" = some (.ref A.ab7)
  uF:yG K "in_order" "in_order" ab5 A.a4D A.tV
  yZ:Binds K A.tV ["stacks"] []
  z6:mg "in_order" = some (.ref A.a4D)
  uG:yG K "__init__" "Shelves.__init__" eV A.bM A.gY
  uH:Binds K A.gY ["self", "plan", "room"] []
  a4L:Meth K A.aC "__init__" A.bM
  a4M:∃ t,Binds K A.gY ["self", "plan", "room"] [.int 1000 t]
  lG:yG K "filled" "Shelves.filled" xC A.gB A.gC
  lH:Binds K A.gC ["self", "spot"] []
  xZ:Meth K A.aC "filled" A.gB
  fW:yG K "need_room" "Shelves.need_room" rQ A.dW A.dX
  dY:Binds K A.dX ["self", "spot", "amount"] []
  lZ:Meth K A.aC "need_room" A.dW
  pU:yG K "put" "Shelves.put" a3B A.mF A.mH
  pW:Binds K A.mH ["self", "lot", "spot", "amount"] []
  a3N:Meth K A.aC "put" A.mF
  lJ:yG K "amount" "Shelves.amount" xD A.gF A.gG
  lK:Binds K A.gG ["self", "lot", "spot"] []
  yC:Meth K A.aC "amount" A.gF
  fH:yG K "need_there" "Shelves.need_there" qC A.dF A.dG
  dH:Binds K A.dG ["self", "lot", "spot", "amount"] []
  jY:Meth K A.aC "need_there" A.dF
  o7:yG K "take" "Shelves.take" a0K A.jM A.jN
  o8:Binds K A.jN ["self", "lot", "spot", "amount"] []
  a1I:Meth K A.aC "take" A.jM
  mL:yG K "shift" "Shelves.shift" zU A.iR A.iT
  mQ:Binds K A.iT ["self", "lot", "one", "other", "amount"] []
  a04:Meth K A.aC "shift" A.iR
  o9:yG K "held" "Shelves.held" a0L A.jO A.jP
  uI:Binds K A.jP ["self", "spot"] []
  abL:Meth K A.aC "held" A.jO
  lM:yG K "places" "Shelves.places" xE A.gH A.gJ
  lO:Binds K A.gJ ["self", "lot"] []
  yD:Meth K A.aC "places" A.gH
  mR:yG K "lying" "Shelves.lying" zV A.iU A.iV
  iY:Binds K A.iV ["self"] []
  rG:Meth K A.aC "lying" A.iU
  dI:yG K "_law_cell_at" "_law_cell_at" a0M A.tW A.jQ
  eY:Binds K A.jQ ["_law_script", "_law_k"] []
  eZ:mg "_law_cell_at" = some (.ref A.tW)
  qT:yG K "_law_plan" "_law_plan" a8H A.a0R A.qG
  vM:Binds K A.qG ["_law_script", "_law_k"] []
  vN:mg "_law_plan" = some (.ref A.a0R)
  mK:yG K "_law_raised" "_law_raised" a3C A.wB A.mJ
  pX:Binds K A.mJ ["_law_e"] []
  pY:mg "_law_raised" = some (.ref A.wB)
  qU:yG K "_law_done" "_law_done" a8I A.a0S A.qH
  vO:Binds K A.qH ["_law_shelves", "_law_deed_here"] []
  vP:mg "_law_done" = some (.ref A.a0S)
  oA:yG K "_law_spots" "_law_spots" a67 A.yR A.nY
  sS:Binds K A.nY ["_law_script", "_law_plan_here"] []
  sU:mg "_law_spots" = some (.ref A.yR)
  qW:yG K "_law_deed" "_law_deed" a8J A.a0T A.qI
  vQ:Binds K A.qI ["_law_script", "_law_k", "_law_spots_here", "_law_room"] []
  vR:mg "_law_deed" = some (.ref A.a0T)
  iZ:yG K "_law_balanced" "_law_balanced" zW A.rC A.iW
  mU:Binds K A.iW ["_law_shelves", "_law_left", "_law_room"] []
  mV:mg "_law_balanced" = some (.ref A.rC)
  aAT:yG K "law" "law" aiF A.a8K A.au6
  aKR:Binds K A.au6 ["_law_script"] []
  aKS:mg "law" = some (.ref A.a8K)
  aM:Cls K A.aC
  abM:Mk K A.aC A.bM
  abN:mg "Shelves" = some (.ref A.aC)
  cB:oR K A.aC "layout"
  rH:oR K A.aC "room"
  bK:oR K A.aC "stacks"
  a6C:mg "DepotError" = some (.ref A.dZ)
  lQ:jf K A.dZ BMv "ValueError.__new__" = true
  j5:(jd K A.dZ).isSome=true
  j6:jh K (.ref A.dZ)=some (.type "type")
  j7:iy K (.ref A.dZ) (.type "BaseException")=some true
  abO:mg "NoPlan" = some (.ref A.gK)
  uJ:jf K A.gK BMv "ValueError.__new__" = true
  pB:(jd K A.gK).isSome=true
  pC:jh K (.ref A.gK)=some (.type "type")
  pD:iy K (.ref A.gK) (.type "BaseException")=some true
  afV:mg "NoBin" = some (.ref A.lC)
  z7:jf K A.lC BMv "ValueError.__new__" = true
  uK:(jd K A.lC).isSome=true
  uL:jh K (.ref A.lC)=some (.type "type")
  uM:iy K (.ref A.lC) (.type "BaseException")=some true
  afW:mg "NoLot" = some (.ref A.lD)
  z8:jf K A.lD BMv "ValueError.__new__" = true
  uN:(jd K A.lD).isSome=true
  uO:jh K (.ref A.lD)=some (.type "type")
  uP:iy K (.ref A.lD) (.type "BaseException")=some true
  a4N:mg "NoAmount" = some (.ref A.cV)
  n8:jf K A.cV BMv "ValueError.__new__" = true
  jZ:(jd K A.cV).isSome=true
  kJ:jh K (.ref A.cV)=some (.type "type")
  kW:iy K (.ref A.cV) (.type "BaseException")=some true
  abP:mg "NoRoom" = some (.ref A.bL)
  uQ:jf K A.bL BMv "ValueError.__new__" = true
  nM:(jd K A.bL).isSome=true
  pF:jh K (.ref A.bL)=some (.type "type")
  nO:iy K (.ref A.bL) (.type "BaseException")=some true
  aiR:ExC K A.bL
  sY:cj K (.ref A.bL) (.type "ValueError")=some true
  a1J:mg "TooLittle" = some (.ref A.aN)
  kY:jf K A.aN BMv "ValueError.__new__" = true
  fJ:(jd K A.aN).isSome=true
  iG:jh K (.ref A.aN)=some (.type "type")
  fK:iy K (.ref A.aN) (.type "BaseException")=some true
  a8O:ExC K A.aN
  lR:cj K (.ref A.aN) (.type "ValueError")=some true
  cA:iy K (.ref A.bL) (.ref A.dZ)=some true
  dM:cj K (.ref A.bL) (.ref A.cV)=some false
  gO:cj K (.ref A.bL) (.ref A.lC)=some false
  gP:cj K (.ref A.bL) (.ref A.lD)=some false
  fC:cj K (.ref A.bL) (.ref A.gK)=some false
  fD:cj K (.ref A.bL) (.ref A.bL)=some true
  cX:cj K (.ref A.bL) (.ref A.aN)=some false
  bN:iy K (.ref A.aN) (.ref A.dZ)=some true
  cJ:cj K (.ref A.aN) (.ref A.cV)=some false
  dN:cj K (.ref A.aN) (.ref A.lC)=some false
  dO:cj K (.ref A.aN) (.ref A.lD)=some false
  cY:cj K (.ref A.aN) (.ref A.gK)=some false
  cZ:cj K (.ref A.aN) (.ref A.bL)=some false
  cD:cj K (.ref A.aN) (.ref A.aN)=some true
  j8:∃ t,mg "MOST_AISLES" = some (.int 26 t)
  j9:∃ t,mg "MOST_PLACES" = some (.int 99 t)
  jA:∃ t,mg "MOST_AMOUNT" = some (.int 1000000 t)
  pG:∃ t,mg "MOST_GAP" = some (.int 20 t)
  eF:∃ t,mg "MOST_LOTS" = some (.int 1000 t)
  a6D:mg "ValueError" = none
  auC:mg "bool" = none
  auD:mg "dict" = none
  an4:mg "int" = none
  oE:mg "isinstance" = none
  aeA:mg "len" = none
  auE:mg "list" = none
  aAU:mg "max" = none
  aAV:mg "min" = none
  an5:mg "range" = none
  a1K:mg "sorted" = none
  auF:mg "sum" = none
  afX:mg "tuple" = none
end Law
namespace Law
open PySem PySem.Spec PyProof.Rows L2 L4 L5 L6
local macro_rules | `(tactic| walk_at "wp")=>`(tactic| first | (simp (maxSteps:=2000000) (implicitDefEqProofs:=false) (disch:=first | rfl | decide | assumption | omega) only [L5.aAN,L5.aF6,L5.aF7,L5.aK4,L5.aK5,L5.aAO,L5.x_raise,L5.x_c,L5.atA,L5.atB,L5.aK7,L5.aF8,L5.ayN,L5.aK8,L5.aNV,L5.aK9,L5.aF9,L5.aFA,L5.aKA,L5.aKB,L5.atF,L5.aAP,L5.aKC,L5.aKD,L5.x_call,L5.aNW,L5.x_m,L5.aK6,L5.aEZ,L5.ayM,L5.atG,L5.aKE,L5.aFC,L5.aFD,L5.amS,L5.atM,L5.aFE,L5.x_lt,L5.aNX,L5.aNY,L5.ayP,L5.ayQ,L5.ayR,L5.ayS,L5.ayT,L5.ayU,L5.ayV,L5.ayW,L5.ayX,L5.aoY,L5.c7,L5.amQ,L5.amR,L5.az0,L5.aF0,L5.aF1,L5.aF2,L5.aF3,L5.aF4,L5.aF5,L5.ai6,L5.afI,L5.acM,L5.akV,L5.ai7,L5.afJ,L5.ai8,L5.afK,L5.acN,L5.ai9,L5.afL,L5.acO,L5.aiA,L5.afM,L5.acP,L5.akX,L5.atO,L5.aoZ,L5.akY,L5.aKH,L5.aKI,L5.akZ,L5.ap0,L5.ap1,L6.az1,L6.aKJ,L6.aFG,L6.az2,L6.aFH,L6.aFJ,L6.az3,L6.afO,L6.amU,L6.aKL,L6.aKM,L6.aFK,L8.aKP,L8.aFN,L8.az4,L8.az5,L8.aNZ,L8.az6,L9.az7,L9.aFO,L10.ap5,L10.au2,L10.aFQ,L10.azC,L7.aFL,L7.aFM,L7.aKO,reduceIte,reduceCtorEq];try dsimp only [L5.akS,L5.akT,L5.atD,L5.atE,L6.afP]) | dsimp only [L5.akS,L5.akT,L5.atD,L5.atE,L6.afP])
local macro_rules | `(tactic| exists $ls,*)=>`(tactic| (simp (implicitDefEqProofs:=false) only [$[$ls:term],*];repeat (first | (walk_at "wp") | (simp (implicitDefEqProofs:=false) only [$[$ls:term],*]))))
local macro_rules | `(tactic| walk_at "wr")=>`(tactic| repeat (walk_at "wp"))
variable {d wd:D}{a b i l p v lot more room am dm:Int}{ns:List Int}{n j x y g:Nat}{ps qs ss ls:List (Int×Int)}{F:fX}{ex:aO->aZ}{st e sh a0 r lf:Addr}{M N M':List (List Key×Addr)}{c c':Addr->List (Int×Int)}{G' G0:Gp}{q:Int×Int}{z:List Key×Addr}{ds xs:List D}{kvs:List (DK×D)}
section
variable {K:Fg} {A:bG} {G:Gp} {R:j4} {EX:aZ} {mg:Str->Option Value}
open L7 L8 L9 L10 L11
noncomputable def isW (d:D) (a b:Int):Bool:=match d with
  | .int i=>decide (a<=i)&&decide (i<=b)
  | _=>false
theorem nA (hd:kn G d) (h:R (.bl (isW d a b)) G):cG K A [d,.int a,.int b] G R EX:=by
  refine ⟨rfl,?_⟩;replace h:=bV.here h;show yS K A _ _ [some d,some (.int a),some (.int b)] G;cases d
  case ref q=>exists yS,akW hd;exact h
  case ty n=>simp [kn,tyD] at hd
  all_goals exists yS
  case int i =>
    by_cases c:a<=i
    . simp only [c,decide_true,if_true];simpa [isW,c] using h
    . simp only [c,decide_false,jx,if_false];simpa [isW,c] using h
  all_goals exact h
noncomputable def cellAt (ns:List Int) (k:Nat):Int:=if k < ns.length then ns.getD k 0 else if ns=[] then 0 else
  let m:=(ns.getD (k % ns.length) 0 * 48271+k * 104729) % 2147483647
  (m * m+48271 * k) % 2147483629
theorem z9 {a:Addr} (hG:G a=some (.rol (ns.map D.int))) {k:Nat} (hk:k < 1000) (h:R (.int (cellAt ns k)) G):aY K A [.ref a,.int (k:Int)] G R EX:=by
  refine ⟨rfl,?_⟩;replace h:=bV.here h;show u6 K A _ _ [some (.ref a),some (.int k),none] G;exists u6,afH (a0J hG);by_cases c:k < ns.length
  . rw [if_pos (decide_eq_true (by omega))];have e:atI (ns.map D.int) (k:Int)=some (.int (ns.getD k 0)):=by rw [a3Y];simp [c,mq]
    rw [aaZ (a0J hG) e];rw [show cellAt ns k=ns.getD k 0 by unfold cellAt;rw [if_pos c]] at h;exact h
  . rw [if_neg (by simp;omega)];exists xT;intro p hp;rw [ab0 (a0J (dU hG hp)) c7 (by simp [aQ]) rfl];obtain ⟨G0,l,h⟩:=h;by_cases hn:ns=[]
    . subst hn;rw [show cellAt [] k=0 by unfold cellAt;simp] at h;simp only [List.map_nil,rY];walk_at "wr";exact ⟨G0,l.trans (.new hp),h⟩
    . have e0:rY (ns.map D.int) []=false:=by cases ns with
        | nil=>exact absurd rfl hn
        | cons n r=>rfl
      have h0:0 < (ns.length:Int):=by cases ns with
        | nil=>exact absurd rfl hn
        | cons n r=>simp
      simp only [e0];exists xR,afH (a0J (dU hG hp));have hm:k % ns.length < ns.length:=Nat.mod_lt _ (by omega)
      have e2:atI (ns.map D.int) ((k:Int) % (ns.length:Int))=some (.int (ns.getD (k % ns.length) 0)):=by
        rw [← Int.natCast_emod,a3Y];simp [hm,mq]
      rw [aaZ (a0J (dU hG hp)) e2];exists xQ;refine ⟨G0,l.trans (.new hp),?_⟩
      have ec:cellAt ns k=((ns.getD (k % ns.length) 0 * 48271+(k:Int) * 104729) % 2147483647 * ((ns.getD (k % ns.length) 0 * 48271+(k:Int) * 104729) % 2147483647)+48271 * (k:Int)) % 2147483629:=by
        unfold cellAt;rw [if_neg c,if_neg hn]
      rw [← ec];exact h
noncomputable def isP (d:D) (n a b:Int):Bool:=match d with
  | .tup [x,y]=>isW x 0 (n - 1)&&isW y a b
  | _=>false
theorem apA {n:Int} (hd:kn G d) (hc:∀ x y,d = .tup [x,y]->kn G x/\kn G y) (h:R (.bl (isP d n a b)) G):yU K A [d,.int n,.int a,.int b] G R EX:=by
  refine ⟨rfl,?_⟩;replace h:=bV.here h;show xH K A _ _ [some d,some (.int n),some (.int a),some (.int b)] G;cases d
  case ref q=>exists xH,a5Y hd;exact h
  case ty n=>simp [kn,tyD] at hd
  case tup xs =>
    exists xH
    match xs,h,hc with
    | [],h,_=>exact h
    | [x],h,_=>exact h
    | x :: y :: z :: r,h,_ =>
      have e:((((x :: y :: z :: r).length:Nat):Int) == 2)=false:=by simp;omega
      simp only [e];exact h
    | [x,y],h,hc =>
      obtain ⟨h1,h2⟩:=hc x y rfl;exists a8L;refine nA h1 ?_;walk_at "wr";refine afN (fun e=>nA h2 ?_) fun e=>?_
      . simpa [isP,e] using h
      . simpa [isP,e] using h
  all_goals exists xH
  all_goals exact h
theorem aFS {j n:Int}:isP (.tup [.int i,.int j]) n a b=(decide (0<=i)&&decide (i<=n - 1)&&(decide (a<=j)&&decide (j<=b))):=rfl
noncomputable def aiS (d:D):Bool:=match d with
  | .tup [x,y,z]=>isW x 1 26&&(isW y 1 99&&isW z 1 20)
  | _=>false
theorem apB (hd:kn G d) (hc:∀ x y z,d = .tup [x,y,z]->kn G x/\kn G y/\kn G z) (h:R (.bl (aiS d)) G):yV K A [d] G R EX:=by
  refine ⟨rfl,?_⟩;replace h:=bV.here h;show xJ K A _ _ [some d] G;cases d
  case ref q=>exists xJ,a5Y hd;exact h
  case ty n=>simp [kn,tyD] at hd
  case tup xs =>
    exists xJ
    match xs,h,hc with
    | [],h,_=>exact h
    | [x],h,_=>exact h
    | [x,y],h,_=>exact h
    | x :: y :: z :: w :: r,h,_ =>
      have e:((((x :: y :: z :: w :: r).length:Nat):Int) == 3)=false:=by simp;omega
      simp only [e];exact h
    | [x,y,z],h,hc =>
      obtain ⟨h1,h2,h3⟩:=hc x y z rfl;exists a8N;refine nA h1 ?_;walk_at "wr";refine ak5 (fun e=>?_) fun e=>?_
      . simpa [aiS,e] using h
      . have e:isW x 1 26=true:=by simpa using e
        refine nA h2 ?_;walk_at "wr";refine ak5 (fun e2=>?_) fun e2=>?_
        . simpa [aiS,e2] using h
        . have e2:isW y 1 99=true:=by simpa using e2
          exists a8M;refine nA h3 ?_;simpa [aiS,e,e2] using h
  all_goals exists xJ
  all_goals exact h
theorem aiT (hd:kn G d) (hc:∀ x y z,d = .tup [x,y,z]->kn G x/\kn G y/\kn G z) (h0:aiS d=false->EX A.gK G) (h1:aiS d=true->R .non G):gZ K A [d] G R EX:=by
  refine ⟨rfl,?_⟩;show a0V K A _ _ [some d] G;exists a0V;refine apB hd hc ?_;walk_at "wr";exact ak5 (fun e=>zT.here (h0 e)) fun e=>bV.here (h1 (by simpa using e))
noncomputable def plD (x y g:Nat):D := .tup [.int x,.int y,.int g]
structure OkP (x y g:Nat):Prop where
  x0:1<=x
  x1:x<=26
  y0:1<=y
  y1:y<=99
  g0:1<=g
  g1:g<=20
theorem azF (o:OkP x y g):aiS (plD x y g)=true:=by
  obtain ⟨_,_,_,_,_,_⟩:=o;simp [aiS,plD,isW];omega
theorem aeC (o:OkP x y g) (h:R .non G):gZ K A [plD x y g] G R EX :=
  aiT atJ (fun a b c e=>by cases e;exact ⟨rfl,rfl,rfl⟩) (fun e=>by rw [azF o] at e;cases e) fun _=>h
theorem al8 (hd:kn G d) (h0:isW d 0 999=false->EX A.lD G) (h1:isW d 0 999=true->R .non G):cH K A [d,.int 1000] G R EX:=by
  refine ⟨rfl,?_⟩;show a4E K A _ _ [some d,some (.int 1000)] G;exists a4E;refine nA hd ?_;walk_at "wr";exact ak5 (fun e=>zT.here (h0 e)) fun e=>bV.here (h1 (by simpa using e))
theorem aiU (hd:kn G d) (h:R (.bl (isW d 1 1000000)) G):sH K A [d] G R EX:=by
  refine ⟨rfl,?_⟩;show a0U K A _ _ [some d] G;exists a0U;exact nA hd (bV.here h)
theorem acW (hd:kn G d) (h0:isW d 1 1000000=false->EX A.cV G) (h1:isW d 1 1000000=true->R .non G):bZ K A [d] G R EX:=by
  refine ⟨rfl,?_⟩;show wC K A _ _ [some d] G;exists wC;refine aiU hd ?_;walk_at "wr";exact ak5 (fun e=>zT.here (h0 e)) fun e=>bV.here (h1 (by simpa using e))
theorem auG (o:OkP x y g) (hd:kn G d) (hc:∀ x y,d = .tup [x,y]->kn G x/\kn G y) (h:R (.bl (isP d x 1 y)) G):a2F K A [plD x y g,d] G R EX:=by
  refine ⟨rfl,?_⟩;show ab9 K A _ _ [some (plD x y g),some d] G;exists ab9;refine aeC o ?_;unfold plD;exists ab8;exact apA hd hc (bV.here h)
theorem al9 (o:OkP x y g) (hd:kn G d) (hc:∀ x y,d = .tup [x,y]->kn G x/\kn G y) (h0:isP d x 1 y=false->EX A.lC G) (h1:isP d x 1 y=true->R .non G):bT K A [plD x y g,d] G R EX:=by
  refine ⟨rfl,?_⟩;show a4F K A _ _ [some (plD x y g),some d] G;exists a4F;refine auG o hd hc ?_;walk_at "wr";exact ak5 (fun e=>zT.here (h0 e)) fun e=>bV.here (h1 (by simpa using e))
structure OkB (x y:Nat) (a p:Int):Prop where
  a0:0<=a
  a1:a < x
  p0:1<=p
  p1:p<=y
theorem a1L (hl:0<=l/\l<=999) (h:R .non G):cH K A [.int l,.int 1000] G R EX:=al8 rfl (fun e=>by simp [isW] at e;omega) fun _=>h
theorem a6E (hl:1<=l/\l<=1000000) (h:R .non G):bZ K A [.int l] G R EX:=acW rfl (fun e=>by simp [isW] at e;omega) fun _=>h
theorem yE (o:OkP x y g) (b:OkB x y a p) (h:R .non G):bT K A [plD x y g,.tup [.int a,.int p]] G R EX:=by
  obtain ⟨b1,b2,b3,b4⟩:=b;refine al9 o atJ (fun x y e=>by cases e;exact ⟨rfl,rfl⟩) (fun e=>?_) fun _=>h;rw [aFS] at e;simp at e;omega
theorem a6F {i v:Int}:∀ {ps:List (Int×Int)},(aK ps i).isSome=true->aK (ps.map fun kv=>if kv.1=i then (kv.1,v) else kv) i=some v
  | [],h=>by cases h
  | z :: ps,h=>by
    rw [dj];by_cases c:z.1=i
    . rw [if_pos c];unfold aK;rw [if_pos c]
    . rw [if_neg c];unfold aK at h ⊢;rw [if_neg c] at h ⊢;exact a6F h
theorem aeD {i v:Int}:∀ {ps:List (Int×Int)},aK ps i=none->aK (ps++[(i,v)]) i=some v
  | [],_=>by show (if i=i then some v else none)=_;rw [if_pos rfl]
  | z :: ps,h=>by
    rw [zc];unfold aK at h ⊢;by_cases c:z.1=i
    . rw [if_pos c] at h;cases h
    . rw [if_neg c] at h ⊢;exact aeD h
theorem abQ:aK (dR ps i v) i=some v:=by
  unfold dR;split
  . rename_i h;exact a6F h
  . rename_i h;exact aeD (by simpa using h)
theorem azG:(dR ps i v).length<=ps.length+1:=by
  unfold dR;split
  . rw [dh];omega
  . rw [qd];exact au _
theorem auH:dR ps i v≠[]:=fun e=>by
  have:=abQ (ps:=ps) (i:=i) (v:=v);rw [e] at this;cases this
theorem aiV (he:G e=some (.bQ false (ps.map jC))) (hl:ps.length < 1000)
    (h1:(aK ps lot).getD 0+more≠0->∀ G',G' e=some (.bQ false ((dR ps lot ((aK ps lot).getD 0+more)).map jC))->(∀ q u,q≠e->G q=some u->G' q=some u)->F.nx [some (.ref st),some (.tup [.int a,.int p]),some (.int lot),some (.int more),some (.ref e)] G')
    (h2:(aK ps lot).getD 0+more=0->∀ G',G' e=some (.bQ false ((bI (dR ps lot 0) lot).map jC))->(∀ q u,q≠e->G q=some u->G' q=some u)->yW K A ex F [some (.ref st),some (.tup [.int a,.int p]),some (.int lot),some (.int more),some (.ref e)] G') :
    a4G K A ex F [some (.ref st),some (.tup [.int a,.int p]),some (.int lot),some (.int more),some (.ref e)] G:=by
  have big:10000 < sizeLine:=by decide
  exists a4G,fZ he;rw [gA he dD rfl]
  have eg:(aK (ps.map jC) (.inl (.inl lot))).getD (.int 0) = .int ((aK ps lot).getD 0):=by
    rw [lB];cases aK ps lot <;> rfl
  rw [eg];generalize hv:(aK ps lot).getD 0+more=v at h1 h2;walk_at "wr";rw [hv,a66 he dD rfl (by rw [dh];omega),a65];generalize hG1:aL G e _=G1;have e1:G1 e=some (.bQ false ((dR ps lot v).map jC)):=by rw [← hG1,aH]
  have k1:∀ q u,q≠e->G q=some u->G1 q=some u:=fun q u n z=>by rw [← hG1,bD n];exact z
  have lp:=azG (ps:=ps) (i:=lot) (v:=v);exists abA,fZ e1;rw [a5Z e1 dD rfl (by rw [lB,abQ];rfl)];walk_at "wr";by_cases c:v=0
  . rw [if_pos (by rw [c];rfl)];rw [amW e1 dD rfl (by rw [lB,abQ];rfl),atX];refine ⟨by rw [fZ e1];trivial,?_⟩;refine h2 c (aL G1 e (.bQ false ((bI (dR ps lot v) lot).map jC))) (by rw [aH,c]) fun q u n z=>?_;rw [bD n];exact k1 q u n z
  . rw [if_neg (by simpa using c)];exists yW;rw [amV e1];walk_at "wr";rw [if_neg]
    . exact h1 c G1 e1 k1
    . simpa using auH (ps:=ps) (i:=lot) (v:=v)
theorem afY (hs:G st=some (.bQ true (M.map ktD))) (hl:M.length < 1000) (hk:aK M (ky a p)=none) (hm:more≠0)
    (h:∀ e G',G e=none->G' st=some (.bQ true ((M++[(ky a p,e)]).map ktD))->G' e=some (.bQ false ([(lot,more)].map jC))->(∀ q u,q≠st->G q=some u->G' q=some u)->R .non G'):eO K A [.ref st,.tup [.int a,.int p],.int lot,.int more] G R EX:=by
  have big:10000 < sizeLine:=by decide
  refine ⟨rfl,?_⟩;have h':∀ e G',G e=none->G' st=some (.bQ true ((M++[(ky a p,e)]).map ktD))->G' e=some (.bQ false ([(lot,more)].map jC))->(∀ q u,q≠st->G q=some u->G' q=some u)->bV R .non G':=fun e G' a b c d=>bV.here (h e G' a b c d);clear h;show a0W K A _ _ [some (.ref st),some (.tup [.int a,.int p]),some (.int lot),some (.int more),none] G;exists a0W,fZ hs;intro e he;have ne:e≠st:=fun z=>by rw [z,hs] at he;cases he
  have hs1:aL G e (.bQ false []) st=some (.bQ true (M.map ktD)):=dU hs he;rw [az8 hs1 nU rfl (by rw [dh];omega) (by rw [nW,hk];rfl)];generalize hG1:aL (aL G e (.bQ false [])) st _=G1;have e1:G1 e=some (.bQ false (([]:List (Int×Int)).map jC)):=by rw [← hG1,bD ne,aH];rfl
  have s1:G1 st=some (.bQ true ((M++[(ky a p,e)]).map ktD)):=by rw [← hG1,aH,jk];rfl
  have k1:∀ q u,q≠st->G q=some u->G1 q=some u:=fun q u n z=>by
    rw [← hG1,bD n];exact dU z he
  refine aiV e1 (by simp) (fun _ G2 e2 k2=>?_) fun z=>?_
  . refine h' e G2 he (k2 _ _ (Ne.symm ne) s1) (by rw [e2];show some (GO.bQ false ([(lot,0+more)].map jC))=_;rw [Int.zero_add]) fun q u n z=>k2 q u (fun w=>by rw [w,he] at z;cases z) (k1 q u n z)
  . exact absurd z (by show (0:Int)+more≠0;rw [Int.zero_add];exact hm)
variable {d:Addr}
theorem a6G (hs:G st=some (.bQ true (M.map ktD))) (hl:M.length < 1000) (hk:aK M (ky a p)=some d) (hd:G d=some (.bQ false (ps.map jC))) (hp:ps.length < 1000)
    (h1:(aK ps lot).getD 0+more≠0->∀ G',G' d=some (.bQ false ((dR ps lot ((aK ps lot).getD 0+more)).map jC))->(∀ q u,q≠d->G q=some u->G' q=some u)->R .non G')
    (h2:(aK ps lot).getD 0+more=0->bI (dR ps lot 0) lot=[]->∀ G',G' st=some (.bQ true ((bI M (ky a p)).map ktD))->(∀ q u,q≠d->q≠st->G q=some u->G' q=some u)->R .non G')
    (h3:(aK ps lot).getD 0+more=0->bI (dR ps lot 0) lot≠[]->∀ G',G' d=some (.bQ false ((bI (dR ps lot 0) lot).map jC))->(∀ q u,q≠d->G q=some u->G' q=some u)->R .non G'):eO K A [.ref st,.tup [.int a,.int p],.int lot,.int more] G R EX:=by
  have big:10000 < sizeLine:=by decide
  refine ⟨rfl,?_⟩;show a0W K A _ _ [some (.ref st),some (.tup [.int a,.int p]),some (.int lot),some (.int more),none] G;exists a0W,fZ hs;intro e he;have ne:st≠d:=fun z=>by rw [z,hd] at hs;cases hs
  have hs1:aL G e (.bQ false []) st=some (.bQ true (M.map ktD)):=dU hs he;have hd1:aL G e (.bQ false []) d=some (.bQ false (ps.map jC)):=dU hd he;rw [az9 hs1 nU rfl (by rw [dh];omega) (by rw [nW,hk];rfl)];refine aiV hd1 hp (fun c G2 e2 k2=>bV.here (h1 c G2 e2 fun q u n z=>k2 q u n (dU z he))) fun c G2 e2 k2=>?_;exists yW;rw [amV e2];walk_at "wr";by_cases c2:bI (dR ps lot 0) lot=[]
  . rw [c2,if_pos (by simp)];have s2:=k2 _ _ ne hs1;exists fZ s2;rw [amW s2 nU rfl (by rw [nW,hk];rfl),atY];refine bV.here (h2 c c2 _ aH fun q u n n2 z=>?_);rw [bD n2];exact k2 q u n (dU z he)
  . rw [if_neg]
    . exact bV.here (h3 c c2 G2 e2 fun q u n z=>k2 q u n (dU z he))
    . have:=List.length_pos_iff.mpr c2;simp;omega
noncomputable abbrev shG (A:bG) (x y g:Nat) (room:Int) (st:Addr):GO := .ins A.aC [("layout",plD x y g),("room",.int room),("stacks",.ref st)]
theorem aFT (o:OkP x y g) (hr:1<=room/\room<=1000000) (h0:G sh=some (.ins A.aC [])) (h:∀ st G',G' sh=some (shG A x y g room st)->G' st=some (.bQ true [])->(∀ q u,q≠sh->G q=some u->G' q=some u)->R .non G'):fV K A [.ref sh,plD x y g,.int room] G R EX:=by
  refine ⟨rfl,?_⟩;show mY K A _ _ [some (.ref sh),some (plD x y g),some (.int room)] G;exists mY;refine aeC o ?_;exists qM;refine a6E hr ?_;exists qL;rw [afQ h0 (by decide)];generalize hG1:aL G sh _=G1;have s1:G1 sh=some (.ins A.aC [("layout",plD x y g)]):=by rw [← hG1,aH];rfl
  exists qK;rw [afQ s1 (by show 1 < 1000;decide)];generalize hG2:aL G1 sh _=G2;have s2:G2 sh=some (.ins A.aC [("layout",plD x y g),("room",.int room)]):=by rw [← hG2,aH];rfl
  exists qJ;intro st hst;have ne:st≠sh:=fun z=>by rw [z,s2] at hst;cases hst
  rw [afQ (dU s2 hst) (by show 2 < 1000;decide)];refine bV.here (h st _ (by rw [aH];rfl) (by rw [bD ne,aH]) fun q u n z=>?_);rw [bD n];refine dU ?_ hst;rw [← hG2,bD n,← hG1,bD n];exact z
noncomputable def amt (M:List (List Key×Addr)) (c:Addr->List (Int×Int)) (k:List Key) (lot:Int):Int:=match aK M k with
  | some d=>(aK (c d) lot).getD 0
  | none=>0
noncomputable def lV (M:List (List Key×Addr)) (c:Addr->List (Int×Int)) (k:List Key):List (Int×Int):=match aK M k with
  | some d=>c d
  | none=>[]
structure SH (A:bG) (sh:Addr) (x y g:Nat) (room:Int) (st:Addr) (M:List (List Key×Addr)) (c:Addr->List (Int×Int)) (G:Gp):Prop where
  o:OkP x y g
  sh:G sh=some (shG A x y g room st)
  st:G st=some (.bQ true (M.map ktD))
  ins:∀ z∈M,G z.2=some (.bQ false ((c z.2).map jC))
theorem SH.le (s:SH A sh x y g room st M c G) (l:Le G G'):SH A sh x y g room st M c G':=⟨s.o,l _ _ s.sh,l _ _ s.st,fun z hz=>l _ _ (s.ins z hz)⟩
theorem SH.get {F:D->Gp->Prop} (s:SH A sh x y g room st M c G) (h:∀ d G',Le G G'->G' d=some (.bQ false ((lV M c (ky a p)).map jC))->F (.ref d) G'):∀ e,G e=none->wR (.ref st) (.tup [.int a,.int p]) (aL G e (.bQ false [])) fun _ _ kvs k=>F ((aK kvs k).getD (.ref e)) (aL G e (.bQ false [])):=by
  intro e he;have l:Le G (aL G e (.bQ false [])) := .new he;rw [gA (l _ _ s.st) nU rfl,nW];unfold lV at h;cases hv:aK M (ky a p) with
  | none=>rw [hv] at h;exact h e _ l aH
  | some d=>rw [hv] at h;exact h d _ l (l _ _ (s.ins _ (ahR hv)))
theorem auI (s:SH A sh x y g room st M c G) (hl:0<=lot/\lot<=999) (b:OkB x y a p) (h:∀ G',Le G G'->R (.int ((aK (lV M c (ky a p)) lot).getD 0)) G'):jE K A [.ref sh,.int lot,.tup [.int a,.int p]] G R EX:=by
  refine ⟨rfl,?_⟩;have h':∀ G',Le G G'->bV R (.int ((aK (lV M c (ky a p)) lot).getD 0)) G':=fun G' l=>bV.here (h G' l);clear h;show oY K A _ _ [some (.ref sh),some (.int lot),some (.tup [.int a,.int p])] G;exists oY;refine a1L hl ?_;exists tZ;rw [jL s.sh rfl];walk_at "wr";refine yE s.o b ?_;exists tY;rw [jL s.sh rfl];exists fZ s.st;refine s.get (F:=fun d G'=>w6 d G'/\wR d (.int lot) G' fun _ _ kvs k=>bV R ((aK kvs k).getD (.int 0)) G') fun d G1 l e1=>⟨by rw [fZ e1];trivial,?_⟩;rw [gA e1 dD rfl,lB];have eg:((aK (lV M c (ky a p)) lot).map D.int).getD (.int 0) = .int ((aK (lV M c (ky a p)) lot).getD 0):=by cases aK (lV M c (ky a p)) lot <;> rfl
  rw [eg];exact h' G1 l
theorem auJ (s:SH A sh x y g room st M c G) (b:OkB x y a p) (h:∀ G',Le G G'->R (.int ((lV M c (ky a p)).map (·.2)).sum) G'):jD K A [.ref sh,.tup [.int a,.int p]] G R EX:=by
  refine ⟨rfl,?_⟩;have h':∀ G',Le G G'->bV R (.int ((lV M c (ky a p)).map (·.2)).sum) G':=fun G' l=>bV.here (h G' l);clear h;show oX K A _ _ [some (.ref sh),some (.tup [.int a,.int p])] G;exists oX;rw [jL s.sh rfl];walk_at "wr";refine yE s.o b ?_;exists tX;rw [jL s.sh rfl];exists fZ s.st;refine s.get (F:=fun d G'=>a0I d G' (bV R)) fun d G1 l e1=>?_;exact azA e1 (h' G1 l)
theorem a8P (s:SH A sh x y g room st M c G) (b:OkB x y a p) (h0:room < ((lV M c (ky a p)).map (·.2)).sum+am->EX A.bL G) (h1:((lV M c (ky a p)).map (·.2)).sum+am<=room->∀ G',Le G G'->R .non G'):cI K A [.ref sh,.tup [.int a,.int p],.int am] G R EX:=by
  refine ⟨rfl,?_⟩;show lY K A _ _ [some (.ref sh),some (.tup [.int a,.int p]),some (.int am)] G;exists lY,lA s.sh (m := "filled") rfl;refine auJ s b fun G1 l=>?_;generalize ((lV M c (ky a p)).map (·.2)).sum=f at *;walk_at "wr";rw [jL (l _ _ s.sh) rfl];walk_at "wr";refine afN (fun e=>?_) fun e=>?_
  . exact ⟨G,l,h0 (by simpa using e)⟩
  . exact bV.here (h1 (by simpa using e) G1 l)
theorem a6H (s:SH A sh x y g room st M c G) (hl:0<=lot/\lot<=999) (b:OkB x y a p) (h0:(aK (lV M c (ky a p)) lot).getD 0 < am->EX A.aN G) (h1:am<=(aK (lV M c (ky a p)) lot).getD 0->∀ G',Le G G'->R .non G'):cC K A [.ref sh,.int lot,.tup [.int a,.int p],.int am] G R EX:=by
  refine ⟨rfl,?_⟩;show jT K A _ _ [some (.ref sh),some (.int lot),some (.tup [.int a,.int p]),some (.int am)] G;exists jT,lA s.sh (m := "amount") rfl;refine auI s hl b fun G1 l=>?_;generalize (aK (lV M c (ky a p)) lot).getD 0=f at *;walk_at "wr";refine afN (fun e=>?_) fun e=>?_
  . exact ⟨G,l,h0 (by simpa using e)⟩
  . exact bV.here (h1 (by simpa using e) G1 l)
theorem aKT (s:SH A sh x y g room st M c G) (hl:0<=lot/\lot<=999) (b:OkB x y a p) (ha:1<=am/\am<=1000000) (h0:room < ((lV M c (ky a p)).map (·.2)).sum+am->EX A.bL G)
    (h1:((lV M c (ky a p)).map (·.2)).sum+am<=room->∀ (G1:Gp) (R':j4) (EX':aZ),Le G G1->(∀ G2,R .non G2->R' .non G2)->eO K A [.ref st,.tup [.int a,.int p],.int lot,.int am] G1 R' EX'):jR K A [.ref sh,.int lot,.tup [.int a,.int p],.int am] G R EX:=by
  refine ⟨rfl,?_⟩;show wD K A _ _ [some (.ref sh),some (.int lot),some (.tup [.int a,.int p]),some (.int am)] G;exists wD;refine a1L hl ?_;exists a00;rw [jL s.sh rfl];walk_at "wr";refine yE s.o b ?_;exists zZ;refine a6E ha ?_;exists zY,lA s.sh (m := "need_room") rfl;refine a8P s b (fun e=>zT.here (h0 e)) fun e G1 l=>?_;exists zX;rw [jL (l _ _ s.sh) rfl];walk_at "wr";exact h1 e G1 _ _ l fun G2 z=>bV.here z
theorem auK (s:SH A sh x y g room st M c G) (hl:0<=lot/\lot<=999) (b:OkB x y a p) (ha:1<=am/\am<=1000000) (h0:(aK (lV M c (ky a p)) lot).getD 0 < am->EX A.aN G)
    (h1:am<=(aK (lV M c (ky a p)) lot).getD 0->∀ (G1:Gp) (R':j4) (EX':aZ),Le G G1->(∀ G2,R .non G2->R' .non G2)->eO K A [.ref st,.tup [.int a,.int p],.int lot,.int (-am)] G1 R' EX'):fB K A [.ref sh,.int lot,.tup [.int a,.int p],.int am] G R EX:=by
  refine ⟨rfl,?_⟩;show u0 K A _ _ [some (.ref sh),some (.int lot),some (.tup [.int a,.int p]),some (.int am)] G;exists u0;refine a1L hl ?_;exists xP;rw [jL s.sh rfl];walk_at "wr";refine yE s.o b ?_;exists xO;refine a6E ha ?_;exists xM,lA s.sh (m := "need_there") rfl;refine a6H s hl b (fun e=>zT.here (h0 e)) fun e G1 l=>?_;exists xK;rw [jL (l _ _ s.sh) rfl];walk_at "wr";exact h1 e G1 _ _ l fun G2 z=>bV.here z
noncomputable abbrev cn (lot v:Int):Addr->List (Int×Int):=fun _=>[(lot,v)]
theorem a6I {κ α:Type} [DecidableEq κ] {k:κ} {v:α}:aK [(k,v)] k=some v:=by
  unfold aK;rw [if_pos rfl]
theorem an7 {w:Int}:dR [(i,v)] i w=[(i,w)]:=by simp [dR,aK]
theorem drop_one {κ α:Type} [DecidableEq κ] {i:κ} {v:α}:bI [(i,v)] i=[]:=by simp [bI]
theorem aKU {k:List Key}:lV [(k,d)] c k=c d:=by
  unfold lV;rw [a6I]
theorem aO0 (s:SH A sh x y g room st [(ky a p,d)] (cn lot v) G) (hl:0<=lot/\lot<=999) (b:OkB x y a p) (ha:1<=am/\am<=1000000) (h0:v < am->EX A.aN G)
    (h1:am < v->∀ G',SH A sh x y g room st [(ky a p,d)] (cn lot (v - am)) G'->(∀ q u,q≠d->G q=some u->G' q=some u)->R .non G')
    (h2:am=v->∀ G',SH A sh x y g room st [] (cn lot v) G'->(∀ q u,q≠d->q≠st->G q=some u->G' q=some u)->R .non G'):fB K A [.ref sh,.int lot,.tup [.int a,.int p],.int am] G R EX:=by
  have hd:=s.ins _ (jt.mpr rfl);have ne:sh≠d:=fun z=>by have:=s.sh;rw [z,hd] at this;cases this
  have ne2:st≠d:=fun z=>by have:=s.st;rw [z,hd] at this;cases this
  have ne3:sh≠st:=fun z=>by have:=s.sh;rw [z,s.st] at this;cases this
  have ea:(aK (lV [(ky a p,d)] (cn lot v) (ky a p)) lot).getD 0=v:=by rw [aKU,a6I];rfl
  refine auK s hl b ha (fun e=>h0 (by rw [ea] at e;exact e)) fun e G1 R' EX' l hR=>?_;rw [ea] at e;have en:(aK [(lot,v)] lot).getD 0+-am=v - am:=by rw [a6I];show v+-am=_;omega
  refine a6G (l _ _ s.st) (by simp) a6I (l _ _ hd) (by simp) (fun z G2 d2 k2=>?_) (fun z zd G2 s2 k2=>?_) (fun z zd=>?_)
  . rw [en] at z d2;refine hR _ (h1 (by omega) G2 ⟨s.o,k2 _ _ ne (l _ _ s.sh),k2 _ _ ne2 (l _ _ s.st),fun z hz=>?_⟩ fun q u n z=>k2 q u n (l _ _ z));cases jt.mp hz;rw [d2];rw [show dR (cn lot v (ky a p,d).2) lot (v - am)=[(lot,v - am)] from an7]
  . rw [en] at z;refine hR _ (h2 (by omega) G2 ⟨s.o,k2 _ _ ne ne3 (l _ _ s.sh),?_,fun z hz=>nomatch hz⟩ fun q u n n2 z=>k2 q u n n2 (l _ _ z));rw [s2,drop_one]
  . refine absurd ?_ zd;rw [show dR (cn lot v (ky a p,d).2) lot 0=[(lot,0)] from an7];exact drop_one
noncomputable def aW (ps:List (Int×Int)) (l:Int):Int:=(aK ps l).getD 0
noncomputable def sm2 (ps:List (Int×Int)):Int:=(ps.map (·.2)).sum
theorem a1M:aW [] l=0:=rfl
theorem cQ:aW (q :: ps) l=if q.1=l then q.2 else aW ps l:=by
  unfold aW;rw [aK];split <;> rfl
theorem qX:sm2 (q :: ps)=q.2+sm2 ps:=by simp [sm2]
theorem azH:sm2 (ps++qs)=sm2 ps+sm2 qs:=by simp [sm2]
theorem uR {κ α:Type} [DecidableEq κ] {k:κ}:∀ {l:List (κ×α)},aK l k=none↔k ∉ l.map (·.1)
  | []=>by simp [aK]
  | z :: r=>by
    rw [aK];by_cases c:z.1=k
    . simp [c]
    . have:¬ k=z.1:=fun e=>c e.symm;simp [c,this,uR (l:=r)]
theorem wG {κ α:Type} [DecidableEq κ] {z:κ×α}:∀ {l:List (κ×α)},(l.map (·.1)).Nodup->z∈l->aK l z.1=some z.2
  | [],_,h=>by cases h
  | y :: r,nd,h=>by
    rw [dj,jg] at nd;rw [aK];rcases ig.mp h with e | h
    . rw [if_pos (by rw [e]),e]
    . rw [if_neg (fun c=>nd.1 (by rw [c];exact gw.mpr ⟨z,h,rfl⟩))];exact wG nd.2 h
theorem sV {κ α:Type} [DecidableEq κ] {k:κ} {v:α}:∀ {l:List (κ×α)},aK l k=some v->(k,v)∈l
  | [],h=>by cases h
  | z :: r,h=>by
    rw [aK] at h;split at h
    . rename_i c;cases h;rw [← c];exact .head _
    . exact jr _ (sV h)
theorem auL {κ α:Type} [DecidableEq κ] {k:κ} {l m:List (κ×α)} (nd:(l.map (·.1)).Nodup) (h:l.Perm m):aK l k=aK m k:=by
  have nm:(m.map (·.1)).Nodup:=(h.map _).nodup_iff.mp nd;cases q:aK l k with
  | none =>
    rw [uR] at q;symm;rw [uR];exact fun z=>q ((h.map _).mem_iff.mpr z)
  | some v=>exact (wG nm (h.mem_iff.mp (sV q))).symm
theorem map_put {w:Int} (nd:(ps.map (·.1)).Nodup):(∀ l',aW (ps.map fun kv=>if kv.1=l then (kv.1,w) else kv) l'=if l'=l/\l∈ps.map (·.1) then w else aW ps l')/\sm2 (ps.map fun kv=>if kv.1=l then (kv.1,w) else kv)=sm2 ps+(if l∈ps.map (·.1) then w - aW ps l else 0):=by
  induction ps with
  | nil=>exact ⟨fun l'=>by simp [a1M],by simp [sm2]⟩
  | cons q r ih =>
    rw [dj,jg] at nd;obtain ⟨i1,i2⟩:=ih nd.2;by_cases c:q.1=l
    . have nl:l ∉ r.map (·.1):=c ▸ nd.1
      have er:(r.map fun kv=>if kv.1=l then (kv.1,w) else kv)=r:=by
        conv=>rhs;rw [← List.map_id r]
        refine um fun z hz=>?_;rw [if_neg (fun e=>nl (by rw [← e];exact gw.mpr ⟨z,hz,rfl⟩))];rfl
      refine ⟨fun l'=>?_,?_⟩
      . rw [dj,er,cQ,cQ,if_pos c];by_cases e:l'=l
        . subst e;simp [c]
        . have:¬ l=l':=fun z=>e z.symm;simp [c,e,this]
      . rw [dj,er,qX,qX,if_pos c,cQ,if_pos c];simp [c];omega
    . refine ⟨fun l'=>?_,?_⟩
      . rw [dj,if_neg c,cQ,cQ,i1];by_cases e:q.1=l'
        . subst e;simp [c]
        . have:¬ l=q.1:=fun z=>c z.symm;rw [if_neg e,if_neg e];simp only [dj,ig,this,false_or]
      . rw [dj,if_neg c,qX,qX,i2,cQ,if_neg c];have:¬ l=q.1:=fun z=>c z.symm;simp only [dj,ig,this,false_or];omega
theorem abR (h:l ∉ ps.map (·.1)):aW ps l=0:=by unfold aW;rw [uR.mpr h];rfl
theorem a6J {w:Int} (nd:(ps.map (·.1)).Nodup):(∀ l',aW (dR ps l w) l'=if l'=l then w else aW ps l')/\sm2 (dR ps l w)=sm2 ps+w - aW ps l/\((dR ps l w).map (·.1)).Nodup/\(∀ q∈dR ps l w,q∈ps∨q=(l,w))/\(dR ps l w).length<=ps.length+1:=by
  have key:(aK ps l).isSome=true↔l∈ps.map (·.1):=by
    cases q:aK ps l with
    | none=>simp only [Option.isSome_none,jx,false_iff];exact uR.mp q
    | some v=>simp only [Option.isSome_some,true_iff];exact gw.mpr ⟨_,sV q,rfl⟩
  unfold dR;split
  . rename_i h;have hm:=key.mp h;obtain ⟨m1,m2⟩:=map_put (w:=w) (l:=l) nd;refine ⟨fun l'=>by rw [m1];simp only [hm,and_true],by rw [m2,if_pos hm];omega,?_,fun q hq=>?_,by simp⟩
    . have:(ps.map fun kv=>if kv.1=l then (kv.1,w) else kv).map (·.1)=ps.map (·.1):=by
        rw [lg];refine um fun z _=>?_;simp only [Function.comp];split <;> rfl
      rw [this];exact nd
    . obtain ⟨z,hz,rfl⟩:=gw.mp hq;split
      . rename_i c;exact .inr (by rw [c])
      . exact .inl hz
  . rename_i h;have hm:l ∉ ps.map (·.1):=fun z=>h (key.mpr z);refine ⟨fun l'=>?_,by rw [azH,abR hm];simp [sm2],?_,fun q hq=>?_,by simp⟩
    . have:∀ qs:List (Int×Int),l ∉ qs.map (·.1)->aW (qs++[(l,w)]) l'=if l'=l then w else aW qs l':=by
        intro qs
        induction qs with
        | nil =>
          intro _;rw [List.nil_append,cQ];by_cases e:l'=l
          . subst e;simp
          . have:¬ l=l':=fun z=>e z.symm;simp [e,this]
        | cons q r ih =>
          intro hn;simp only [dj,ig,not_or] at hn;rw [zc,cQ,cQ,ih hn.2];by_cases e:q.1=l'
          . subst e;have:¬ q.1=l:=fun z=>hn.1 z.symm;simp [this]
          . simp [e]
      exact this ps hm
    . rw [jk,qy];refine ⟨nd,by simp,fun a ha b hb e=>?_⟩;simp at hb;exact hm (by rw [← hb,← e];exact ha)
    . rcases oh.mp hq with hq | hq
      . exact .inl hq
      . exact .inr (jt.mp hq)
theorem aiW (nd:(ps.map (·.1)).Nodup):(∀ l',aW (bI ps l) l'=if l'=l then 0 else aW ps l')/\sm2 (bI ps l)=sm2 ps - aW ps l/\((bI ps l).map (·.1)).Nodup/\(∀ q∈bI ps l,q∈ps/\q.1≠l)/\(bI ps l).length<=ps.length:=by
  have sub:∀ q∈bI ps l,q∈ps/\q.1≠l:=fun q hq=>by
    obtain ⟨a,b⟩:=uq.mp hq;exact ⟨a,by simpa using b⟩
  have both:(∀ l',aW (bI ps l) l'=if l'=l then 0 else aW ps l')/\sm2 (bI ps l)=sm2 ps - aW ps l:=by
    clear sub
    induction ps with
    | nil=>exact ⟨fun l'=>by simp [bI,a1M],by simp [bI,sm2,a1M]⟩
    | cons q r ih =>
      rw [dj,jg] at nd;obtain ⟨i1,i2⟩:=ih nd.2;by_cases c:q.1=l
      . have e:bI (q :: r) l=bI r l:=by simp [bI,c]
        have nl:l ∉ r.map (·.1):=c ▸ nd.1;refine ⟨fun l'=>?_,?_⟩
        . rw [e,i1,cQ];by_cases z:l'=l
          . simp [z]
          . have:¬ l=l':=fun w=>z w.symm;simp [z,c,this]
        . rw [e,i2,qX,cQ,if_pos c,abR nl];omega
      . have e:bI (q :: r) l=q :: bI r l:=by simp [bI,c]
        refine ⟨fun l'=>?_,?_⟩
        . rw [e,cQ,cQ,i1];by_cases z:q.1=l'
          . subst z;simp [c]
          . simp [z]
        . rw [e,qX,qX,i2,cQ,if_neg c];omega
  refine ⟨both.1,both.2,?_,sub,vo _ _⟩;exact nd.sublist ((a0b).map _)
theorem a6K (h:∀ q∈ps,1<=q.2):0<=aW ps l:=by
  unfold aW;cases q:aK ps l with
  | none=>exact wk _
  | some v=>have:=h _ (sV q);simp only at this;show 0<=v;omega
noncomputable def tot (M:List (List Key×Addr)) (c:Addr->List (Int×Int)) (l:Int):Int:=(M.map fun z=>aW (c z.2) l).sum
structure Bin (room:Int) (ps:List (Int×Int)):Prop where
  ne:ps≠[]
  nd:(ps.map (·.1)).Nodup
  pos:∀ q∈ps,1<=q.2
  sm:sm2 ps<=room
structure Shv (room:Int) (n:Nat) (M:List (List Key×Addr)) (c:Addr->List (Int×Int)):Prop where
  kn:(M.map (·.1)).Nodup
  an:(M.map (·.2)).Nodup
  bn:∀ z∈M,Bin room (c z.2)/\(c z.2).length<=n
  ks:∀ z∈M,∃ a p:Int,z.1=ky a p
  len:M.length<=n
theorem Shv.nil:Shv room 0 [] c:=⟨by simp,by simp,(fun z hz=>by cases hz),(fun z hz=>by cases hz),by simp⟩
theorem Shv.up {m:Nat} (h:Shv room n M c) (l:n<=m):Shv room m M c:=⟨h.kn,h.an,fun z hz=>⟨(h.bn z hz).1,jj (h.bn z hz).2 l⟩,h.ks,jj h.len l⟩
noncomputable def setC (c:Addr->List (Int×Int)) (d:Addr) (ps:List (Int×Int)):Addr->List (Int×Int):=fun q=>if q=d then ps else c q
theorem pH:setC c d ps d=ps:=if_pos rfl
theorem sW {q:Addr} (h:q≠d):setC c d ps q=c q:=if_neg h
theorem afZ {c:Addr->List (Int×Int)} {d:Addr} {ps:List (Int×Int)} {l:Int}:∀ {M:List (List Key×Addr)},d ∉ M.map (·.2)->tot M (setC c d ps) l=tot M c l
  | [],_=>rfl
  | z :: r,h=>by
    simp only [dj,ig,not_or] at h;show aW (setC c d ps z.2) l+tot r (setC c d ps) l=aW (c z.2) l+tot r c l;rw [sW (fun e=>h.1 e.symm),afZ h.2]
theorem an8 {c:Addr->List (Int×Int)} {k:List Key} {d:Addr} {ps:List (Int×Int)} {l:Int}:∀ {M:List (List Key×Addr)},(M.map (·.2)).Nodup->(k,d)∈M->tot M (setC c d ps) l=tot M c l - aW (c d) l+aW ps l
  | [],_,h=>by cases h
  | z :: r,nd,h=>by
    rw [dj,jg] at nd;show aW (setC c d ps z.2) l+tot r (setC c d ps) l=aW (c z.2) l+tot r c l - aW (c d) l+aW ps l;rcases ig.mp h with e | h
    . subst e;rw [afZ nd.1];show aW (setC c d ps d) l+tot r c l=aW (c d) l+tot r c l - aW (c d) l+aW ps l;rw [pH];omega
    . have ne:z.2≠d:=fun e=>nd.1 (by rw [e];exact gw.mpr ⟨_,h,rfl⟩);rw [sW ne,an8 nd.2 h];omega
theorem azI:tot (M++N) c l=tot M c l+tot N c l:=by simp [tot]
theorem aiX {c:Addr->List (Int×Int)} {k:List Key} {d:Addr} {l:Int}:∀ {M:List (List Key×Addr)},(M.map (·.1)).Nodup->(k,d)∈M->tot (bI M k) c l=tot M c l - aW (c d) l
  | [],_,h=>by cases h
  | z :: r,nd,h=>by
    rw [dj,jg] at nd;by_cases e:z.1=k
    . have er:bI (z :: r) k=r:=by
        have:bI r k=r:=a0a.mpr fun q hq=>by
          simp only [bx,decide_eq_false_iff_not];exact fun w=>nd.1 (by rw [e,← w];exact gw.mpr ⟨q,hq,rfl⟩)
        unfold bI at this ⊢;rw [mz,if_neg (by simp [e]),this]
      have ez:z=(k,d):=by
        rcases ig.mp h with h | h
        . exact h.symm
        . exact absurd (show z.1∈r.map (·.1) by rw [e];exact gw.mpr ⟨_,h,rfl⟩) nd.1
      rw [er];show tot r c l=aW (c z.2) l+tot r c l - aW (c d) l;rw [ez];show tot r c l=aW (c d) l+tot r c l - aW (c d) l;omega
    . have er:bI (z :: r) k=z :: bI r k:=by simp [bI,e]
      have hr:(k,d)∈r:=(ig.mp h).resolve_left fun w=>e (by rw [← w]);rw [er];show aW (c z.2) l+tot (bI r k) c l=aW (c z.2) l+tot r c l - aW (c d) l;rw [aiX nd.2 hr];omega
variable {sh:Addr} {x y g:Nat} {room:Int} {st:Addr} {M:List (List Key×Addr)} {c:Addr->List (Int×Int)}
theorem an9 {k k':List Key} {e:Addr} (n:k≠k'):∀ {M:List (List Key×Addr)},aK (M++[(k',e)]) k=aK M k
  | []=>by
    show (if k'=k then some e else none)=none;rw [if_neg (Ne.symm n)]
  | z :: r=>by
    rw [zc,aK,aK,an9 n]
theorem abS {k k':List Key} (n:k≠k'):∀ {M:List (List Key×Addr)},aK (bI M k') k=aK M k
  | []=>rfl
  | z :: r=>by
    by_cases e:z.1=k'
    . have er:bI (z :: r) k'=bI r k':=by simp [bI,e]
      rw [er,abS n,aK,if_neg (by rw [e];exact Ne.symm n)]
    . have er:bI (z :: r) k'=z :: bI r k':=by simp [bI,e]
      rw [er,aK,aK,abS n]
theorem ag0 {z y:List Key×Addr}:∀ {M:List (List Key×Addr)},(M.map (·.2)).Nodup->z∈M->y∈M->z.2=y.2->z=y
  | [],_,h,_,_=>by cases h
  | w :: r,nd,h1,h2,e=>by
    rw [dj,jg] at nd;rcases ig.mp h1 with a | a <;> rcases ig.mp h2 with b | b
    . rw [a,b]
    . exact absurd (by rw [← a,e];exact gw.mpr ⟨_,b,rfl⟩) nd.1
    . exact absurd (by rw [← b,← e];exact gw.mpr ⟨_,a,rfl⟩) nd.1
    . exact ag0 nd.2 a b e
noncomputable def Kp (st:Addr) (M M':List (List Key×Addr)) (G G':Gp):Prop:=(∀ q u,q≠st->q ∉ M.map (·.2)->G q=some u->G' q=some u)/\∀ q∈M'.map (·.2),q∈M.map (·.2)∨G q=none
variable {G1:Gp}
theorem Kp.trans {M1 M2:List (List Key×Addr)} {G2:Gp} (h:Kp st M M1 G G1) (h2:Kp st M1 M2 G1 G2) (hs:G1 st≠none):Kp st M M2 G G2:=by
  refine ⟨fun q u n1 n2 e=>?_,fun q hq=>?_⟩
  . refine h2.1 q u n1 (fun z=>?_) (h.1 q u n1 n2 e);rcases h.2 q z with z | z
    . exact n2 z
    . rw [z] at e;cases e
  . rcases h2.2 q hq with z | z
    . exact h.2 q z
    . by_cases c:q∈M.map (·.2)
      . exact .inl c
      . right;cases e:G q with
        | none=>rfl
        | some u =>
          have n1:q≠st:=fun w=>hs (w ▸ z);have:=h.1 q u n1 c e;rw [z] at this;cases this
theorem Kp.le {M1:List (List Key×Addr)} (l:Le G0 G) (h:Kp st M M1 G G1):Kp st M M1 G0 G1:=⟨fun q u n1 n2 e=>h.1 q u n1 n2 (l _ _ e),fun q hq=>by
  rcases h.2 q hq with z | z
  . exact .inl z
  . right;cases e:G0 q with
    | none=>rfl
    | some u=>rw [l _ _ e] at z;cases z⟩
theorem abT (kn:(M.map (·.1)).Nodup) (h:z∈M):lV M c z.1=c z.2:=by
  unfold lV;rw [wG kn h]
theorem a6L {k:List Key} (hr:0<=room) (v:Shv room n M c):((lV M c k).map (·.1)).Nodup/\(∀ q∈lV M c k,1<=q.2)/\sm2 (lV M c k)<=room/\(lV M c k).length<=n:=by
  unfold lV;cases e:aK M k with
  | none=>exact ⟨yc,(fun q hq=>by cases hq),hr,lu _⟩
  | some d =>
    obtain ⟨b,l⟩:=v.bn _ (sV e);exact ⟨b.nd,b.pos,b.sm,l⟩
theorem aFU (v:Int):aW [(lot,v)] l=if l=lot then v else 0:=by
  rw [cQ];by_cases e:l=lot
  . rw [if_pos e.symm,if_pos e]
  . rw [if_neg (Ne.symm e),if_neg e];rfl
theorem anA (s:SH A sh x y g room st M c G) (v:Shv room n M c) {k:List Key} (hk:aK M k=some d) (b:Bin room ps) (hl:ps.length<=n+1) (hv:∀ l,aW ps l=aW (c d) l+if l=lot then more else 0) (e:G' d=some (.bQ false (ps.map jC))) (hk2:∀ q u,q≠d->G q=some u->G' q=some u) :
    SH A sh x y g room st M (setC c d ps) G'/\Shv room (n+1) M (setC c d ps)/\(∀ l,tot M (setC c d ps) l=tot M c l+if l=lot then more else 0)/\(∀ k',k'≠k->lV M (setC c d ps) k'=lV M c k')/\Kp st M M G G':=by
  have hm:=sV hk;have hd:=s.ins _ hm;have ne:sh≠d:=fun z=>by have:=s.sh;rw [z,hd] at this;cases this
  have ne2:st≠d:=fun z=>by have:=s.st;rw [z,hd] at this;cases this
  refine ⟨⟨s.o,hk2 _ _ ne s.sh,hk2 _ _ ne2 s.st,fun z hz=>?_⟩,⟨v.kn,v.an,fun z hz=>?_,v.ks,vg v.len⟩,fun l=>?_,fun k' n'=>?_,fun q u n1 n2 w=>hk2 q u (fun z=>n2 (by rw [z];exact gw.mpr ⟨_,hm,rfl⟩)) w,fun q hq => .inl hq⟩
  . by_cases w:z.2=d
    . rw [w,pH];exact e
    . rw [sW w];exact hk2 _ _ w (s.ins z hz)
  . by_cases w:z.2=d
    . rw [w,pH];exact ⟨b,hl⟩
    . rw [sW w];exact ⟨(v.bn z hz).1,vg (v.bn z hz).2⟩
  . rw [an8 v.an hm,hv];omega
  . unfold lV;cases e':aK M k' with
    | none=>rfl
    | some d' =>
      have:d'≠d:=fun w=>n' (by have:=ag0 v.an (sV e') hm w;exact congrArg (·.1) this);exact sW this
theorem anB (s:SH A sh x y g room st M c G) (v:Shv room n M c) (hn:n < 900) (hm:more≠0) (h0:0<=aW (lV M c (ky a p)) lot+more) (hr:sm2 (lV M c (ky a p))+more<=room)
    (h:∀ M' c' G',SH A sh x y g room st M' c' G'->Shv room (n+1) M' c'->(∀ l,tot M' c' l=tot M c l+if l=lot then more else 0)->(∀ k',k'≠ky a p->lV M' c' k'=lV M c k')->Kp st M M' G G'->R .non G'):eO K A [.ref st,.tup [.int a,.int p],.int lot,.int more] G R EX:=by
  have ne3:sh≠st:=fun z=>by have:=s.sh;rw [z,s.st] at this;cases this
  have nst:∀ z∈M,z.2≠st:=fun z hz w=>by have:=s.ins z hz;rw [w,s.st] at this;cases this
  cases hk:aK M (ky a p) with
  | none =>
    have eh:lV M c (ky a p)=[]:=by unfold lV;rw [hk]
    rw [eh] at h0 hr;have h0':0<=more:=by simpa [a1M] using h0
    have hr':more<=room:=by simpa [sm2] using hr
    refine afY s.st (by have:=v.len;omega) hk hm fun e G' he s2 d2 k2=>?_;have nin:∀ z∈M,z.2≠e:=fun z hz w=>by have:=s.ins z hz;rw [w,he] at this;cases this
    have nm:e ∉ M.map (·.2):=fun w=>by obtain ⟨z,hz,w⟩:=gw.mp w;exact nin z hz w
    refine h (M++[(ky a p,e)]) (setC c e [(lot,more)]) G' ⟨s.o,k2 _ _ ne3 s.sh,s2,fun z hz=>?_⟩ ⟨?_,?_,fun z hz=>?_,fun z hz=>?_,?_⟩ (fun l=>?_) (fun k' n'=>?_) ⟨fun q u n1 _ w=>k2 q u n1 w,fun q hq=>?_⟩
    . rcases oh.mp hz with hz | hz
      . rw [sW (nin z hz)];exact k2 _ _ (nst z hz) (s.ins z hz)
      . cases jt.mp hz;rw [show setC c e [(lot,more)] (ky a p,e).2=[(lot,more)] from pH];exact d2
    . rw [jk,qy];refine ⟨v.kn,by simp,fun u hu w hw z=>?_⟩;simp at hw;exact uR.mp hk (by rw [← hw,← z];exact hu)
    . rw [jk,qy];refine ⟨v.an,by simp,fun u hu w hw z=>?_⟩;simp at hw;exact nm (by rw [← hw,← z];exact hu)
    . rcases oh.mp hz with hz | hz
      . rw [sW (nin z hz)];exact ⟨(v.bn z hz).1,vg (v.bn z hz).2⟩
      . cases jt.mp hz;rw [show setC c e [(lot,more)] (ky a p,e).2=[(lot,more)] from pH];refine ⟨⟨by simp,by simp,fun q hq=>?_,?_⟩,by simp⟩
        . cases jt.mp hq;show 1<=more;omega
        . rw [qX];show more+0<=room;omega
    . rcases oh.mp hz with hz | hz
      . exact v.ks z hz
      . cases jt.mp hz;exact ⟨a,p,rfl⟩
    . have:=v.len;rw [qd];exact Nat.add_le_add_right this 1
    . rw [azI,afZ nm];show _+(aW (setC c e [(lot,more)] e) l+0)=_;rw [pH,aFU];omega
    . unfold lV;rw [an9 n'];cases e':aK M k' with
      | none=>rfl
      | some d'=>exact sW (nin _ (sV e'))
    . rw [jk] at hq;rcases oh.mp hq with hq | hq
      . exact .inl hq
      . simp at hq;rw [hq];exact .inr he
  | some d =>
    have hmm:=sV hk;have hd:=s.ins _ hmm;obtain ⟨b,bl⟩:Bin room (c d)/\(c d).length<=n:=v.bn _ hmm;have eh:lV M c (ky a p)=c d:=by unfold lV;rw [hk]
    rw [eh] at h0 hr;have bl':(c d).length<=n:=bl;refine a6G s.st (by have:=v.len;omega) hk hd (by show (c d).length < 1000;omega) (fun w G' e k2=>?_) (fun w wd G' e k2=>?_) fun w wd G' e k2=>?_
    . obtain ⟨q1,q2,q3,q4,q5⟩:=a6J (l:=lot) (w:=(aK (c d) lot).getD 0+more) b.nd;have ev:(aK (c d) lot).getD 0=aW (c d) lot:=rfl;have e:G' d=some (.bQ false ((dR (c d) lot ((aK (c d) lot).getD 0+more)).map jC)):=e;rw [ev] at w e q1 q2 q3 q4 q5
      have hp:∀ q∈dR (c d) lot (aW (c d) lot+more),1<=q.2:=fun q hq=>by
        rcases q4 q hq with z | z
        . exact b.pos q z
        . rw [z];show 1<=aW (c d) lot+more;omega
      have hv:∀ l,aW (dR (c d) lot (aW (c d) lot+more)) l=aW (c d) l+if l=lot then more else 0:=fun l=>by
        rw [q1];by_cases z:l=lot
        . rw [if_pos z,if_pos z,z]
        . rw [if_neg z,if_neg z];omega
      obtain ⟨z1,z2,z3,z4,z5⟩:=anA s v hk (lot:=lot) (more:=more) ⟨auH,q3,hp,by rw [q2];omega⟩ (jj q5 (Nat.succ_le_succ bl')) hv e k2;exact h _ _ G' z1 z2 z3 z4 z5
    . obtain ⟨q1,q2,q3,q4,q5⟩:=a6J (l:=lot) (w:=0) b.nd;obtain ⟨t1,t2,t3,t4,t5⟩:=aiW (l:=lot) q3;have wd':bI (dR (c d) lot 0) lot=[]:=wd;rw [wd'] at t1;have w':aW (c d) lot+more=0:=w
      have hv:∀ l,aW (c d) l=-(if l=lot then more else 0:Int):=fun l=>by
        have:=t1 l;rw [q1,a1M] at this;by_cases z:l=lot
        . rw [if_pos z,z];omega
        . rw [if_neg z,if_neg z] at this;rw [if_neg z];omega
      have sub:∀ z∈bI M (ky a p),z∈M:=fun z hz=>(uq.mp hz).1;have sl:List.Sublist (bI M (ky a p)) M:=a0b;refine h (bI M (ky a p)) c G' ⟨s.o,k2 _ _ (fun z=>by have:=s.sh;rw [z,hd] at this;cases this) ne3 s.sh,e,fun z hz=>?_⟩ ⟨v.kn.sublist (sl.map _),v.an.sublist (sl.map _),fun z hz=>⟨(v.bn z (sub z hz)).1,vg (v.bn z (sub z hz)).2⟩,fun z hz=>v.ks z (sub z hz),vg (jj sl.length_le v.len)⟩ (fun l=>?_) (fun k' n'=>?_) ⟨fun q u n1 n2 w=>k2 q u (fun z=>n2 (by rw [z];exact gw.mpr ⟨_,hmm,rfl⟩)) n1 w,fun q hq=>?_⟩
      . refine k2 _ _ (fun w=>?_) (nst z (sub z hz)) (s.ins z (sub z hz));have:=ag0 v.an (sub z hz) hmm w;have h3:=(uq.mp hz).2;rw [this] at h3;simp at h3
      . rw [aiX v.kn hmm,hv];omega
      . unfold lV;rw [abS n']
      . obtain ⟨z,hz,rfl⟩:=gw.mp hq;exact .inl (gw.mpr ⟨z,sub z hz,rfl⟩)
    . obtain ⟨q1,q2,q3,q4,q5⟩:=a6J (l:=lot) (w:=0) b.nd;obtain ⟨t1,t2,t3,t4,t5⟩:=aiW (l:=lot) q3;have w':aW (c d) lot+more=0:=w;have v0:=a6K (l:=lot) b.pos
      have hp:∀ q∈bI (dR (c d) lot 0) lot,1<=q.2:=fun q hq=>by
        obtain ⟨m1,m2⟩:=t4 q hq;rcases q4 q m1 with z | z
        . exact b.pos q z
        . exact absurd (by rw [z]) m2
      have hv:∀ l,aW (bI (dR (c d) lot 0) lot) l=aW (c d) l+if l=lot then more else 0:=fun l=>by
        rw [t1,q1];by_cases z:l=lot
        . rw [if_pos z,if_pos z,z];omega
        . rw [if_neg z,if_neg z,if_neg z];omega
      obtain ⟨z1,z2,z3,z4,z5⟩:=anA s v hk (lot:=lot) (more:=more) ⟨wd,t3,hp,by rw [t2,q2,q1,if_pos rfl];omega⟩ (jj t5 (jj q5 (Nat.succ_le_succ bl'))) hv e k2;exact h _ _ G' z1 z2 z3 z4 z5
noncomputable def Did (A:bG) (sh:Addr) (x y g:Nat) (room:Int) (st:Addr) (n:Nat) (M:List (List Key×Addr)) (c:Addr->List (Int×Int)) (G:Gp) (lot dm:Int) (M':List (List Key×Addr)) (c':Addr->List (Int×Int)) (G':Gp):Prop:=SH A sh x y g room st M' c' G'/\Shv room (n+2) M' c'/\(∀ l,tot M' c' l=tot M c l+if l=lot then dm else 0)/\Kp st M M' G G'
theorem azJ (s:SH A sh x y g room st M c G) (v:Shv room n M c) (hn:n < 800) (hl:0<=lot/\lot<=999) (b:OkB x y a p) (ha:1<=am/\am<=1000000) (hr:0<=room) (h0:EX A.bL G)
    (h1:∀ M' c' G',Did A sh x y g room st n M c G lot am M' c' G'->R .non G'):jR K A [.ref sh,.int lot,.tup [.int a,.int p],.int am] G R EX:=by
  refine aKT s hl b ha (fun _=>h0) fun e G1 R' EX' l hR=>?_;obtain ⟨_,b2,_,_⟩:=a6L (k:=ky a p) hr v;refine anB (s.le l) v (by omega) (by omega) (by have:=a6K (l:=lot) b2;omega) e fun M' c' G' s' v' t' _ k'=>hR _ (h1 M' c' G' ⟨s',v'.up (yt _),t',k'.le l⟩)
theorem auM (s:SH A sh x y g room st M c G) (v:Shv room n M c) (hn:n < 800) (hl:0<=lot/\lot<=999) (b:OkB x y a p) (ha:1<=am/\am<=1000000) (hr:0<=room) (h0:EX A.aN G)
    (h1:∀ M' c' G',Did A sh x y g room st n M c G lot (-am) M' c' G'->R .non G'):fB K A [.ref sh,.int lot,.tup [.int a,.int p],.int am] G R EX:=by
  refine auK s hl b ha (fun _=>h0) fun e G1 R' EX' l hR=>?_;obtain ⟨_,b2,b3,_⟩:=a6L (k:=ky a p) hr v;have e':am<=aW (lV M c (ky a p)) lot:=e;refine anB (s.le l) v (by omega) (by omega) (by omega) (by omega) fun M' c' G' s' v' t' _ k'=>hR _ (h1 M' c' G' ⟨s',v'.up (yt _),t',k'.le l⟩)
theorem azK (s:SH A sh x y g room st M c G) (v:Shv room n M c) (hn:n < 800) {a2 p2:Int} (hl:0<=lot/\lot<=999) (b:OkB x y a p) (b2:OkB x y a2 p2) (ha:1<=am/\am<=1000000) (hr:0<=room) (h0:EX A.aN G) (h0':EX A.bL G)
    (h1:∀ M' c' G',Did A sh x y g room st n M c G lot 0 M' c' G'->R .non G'):lE K A [.ref sh,.int lot,.tup [.int a,.int p],.tup [.int a2,.int p2],.int am] G R EX:=by
  refine ⟨rfl,?_⟩;replace h1:∀ M' c' G',Did A sh x y g room st n M c G lot 0 M' c' G'->bV R .non G':=fun M' c' G' z=>bV.here (h1 M' c' G' z);show rD K A _ _ [some (.ref sh),some (.int lot),some (.tup [.int a,.int p]),some (.tup [.int a2,.int p2]),some (.int am)] G;exists rD;refine a1L hl ?_;exists vH;rw [jL s.sh rfl];walk_at "wr";refine yE s.o b ?_;exists vG;rw [jL s.sh rfl];walk_at "wr";refine yE s.o b2 ?_;exists vD;refine a6E ha ?_;exists vC,lA s.sh (m := "need_there") rfl;refine a6H s hl b (fun _=>zT.here h0) fun e G1 l=>?_;have e':am<=aW (lV M c (ky a p)) lot:=e;have s1:=s.le l;exists vB;refine ⟨rfl,rfl,ak5 (fun z=>?_) fun z=>h1 M c G1 ⟨s1,v.up (Nat.le_add_right _ _),fun l'=>by split <;> omega,(fun q u _ _ w=>l _ _ w),fun q hq => .inl hq⟩⟩
  have ne:ky a2 p2≠ky a p:=fun w=>by
    have w2:a2=a/\p2=p:=by simpa [L9.ky] using w
    rw [w2.1,w2.2] at z;simp [eqP,rY] at z
  refine ⟨by rw [lA s1.sh (m := "need_room") rfl];trivial,?_⟩;refine a8P s1 b2 (fun _=>⟨_,l,h0'⟩) fun er G2 l2=>?_;have s2:=s1.le l2;exists qO;rw [jL s2.sh rfl];walk_at "wr";obtain ⟨_,p1,p3,_⟩:=a6L (k:=ky a p) hr v;refine anB s2 v (by omega) (by omega) (by omega) (by omega) fun M1 c1 G3 s3 v3 t3 o3 k3=>?_;exists qN;rw [jL s3.sh rfl];walk_at "wr";obtain ⟨_,p4,p5,_⟩:=a6L (k:=ky a2 p2) hr v;have p6:=a6K (l:=lot) p4;have p7:sm2 (lV M c (ky a2 p2))+am<=room:=er;refine anB s3 v3 (by omega) (by omega) (by rw [o3 _ ne];omega) (by rw [o3 _ ne];exact p7) fun M2 c2 G4 s4 v4 t4 o4 k4=>h1 M2 c2 G4 ⟨s4,v4,fun l'=>?_,(k3.trans k4 (by rw [s3.st];simp)).le (l.trans l2)⟩;rw [t4,t3];split <;> omega
theorem aKV {p:Addr} {j:Int} {b:Bool} (h:∀ k,(k=i∨k=j)->R (.int k) (aL G p (.lst [.int i,.int j]))):iQ (.ref p) (.int (if b=true then 1 else 0)) (aL G p (.lst [.int i,.int j])) R:=by
  refine a3Z c7 (by split <;> decide) (by simp;split <;> decide) ?_;exact all_cons (h _ (.inl rfl)) (all_cons (h _ (.inr rfl)) all_nil)
theorem aFV {a:Addr} (hG:G a=some (.rol (ns.map D.int))) {k:Nat} (hk:k < 900) (h:∀ x y g:Nat,OkP x y g->R (plD x y g) G):sI K A [.ref a,.int (k:Int)] G R EX:=by
  refine ⟨rfl,?_⟩;show a1A K A _ _ [some (.ref a),some (.int k),none,none,none,none] G;exists a1A;refine z9 (k:=k) hG (by omega) ?_;exists a3H;rw [show (k:Int)+1=((k+1:Nat):Int) by omega];refine z9 (k:=k+1) hG (by omega) ?_;generalize cellAt ns k=c;generalize cellAt ns (k+1)=c2;exists a3G;intro p hp;refine aKV fun x hx=>?_;exists a3F;intro p2 hp2;refine aKV fun y hy=>?_;exists a3E;have z:=ayZ (h x.toNat y.toNat (1+c / 104 % 20).toNat ⟨by omega,by omega,by omega,by omega,by omega,by omega⟩) ((Le.new (o := .lst [D.int (1+c % 4),D.int (1+c % 26)]) hp).trans (.new (o := .lst [D.int (1+c2 % 6),D.int (1+c2 % 99)]) hp2));unfold plD at z;rw [Int.toNat_of_nonneg (by omega),Int.toNat_of_nonneg (by omega),Int.toNat_of_nonneg (by omega)] at z;exact z
theorem abU {C:Addr} {b0 b1 b2 b3 b4 b5:Bool} (he:G e=some (.exn C)) (ec:ExC K C) (kv:cj K (.ref C) (.type "ValueError")=some true) (k0:cj K (.ref C) (.ref A.gK)=some b0) (k1:cj K (.ref C) (.ref A.lD)=some b1) (k2:cj K (.ref C) (.ref A.lC)=some b2) (k3:cj K (.ref C) (.ref A.cV)=some b3) (k4:cj K (.ref C) (.ref A.aN)=some b4) (k5:cj K (.ref C) (.ref A.bL)=some b5)
    (h1:(([D.bl b0,.bl b1,.bl b2,.bl b3]++[D.bl b4,.bl b5]).filter aoH).length=1) (hj:([D.bl b0,.bl b1,.bl b2,.bl b3]++[.bl b4,.bl b5])[j]?=some (.bl true)) (hn:∀ m,m < j->([D.bl b0,.bl b1,.bl b2,.bl b3]++[.bl b4,.bl b5])[m]?≠some (.bl true)) (h:∀ G',Le G G'->R (.tup [.str "refused",.int j]) G'):gM K A [.ref e] G R EX:=by
  have big:10000 < sizeLine:=by decide
  refine ⟨rfl,?_⟩;have h':∀ G',Le G G'->bV R (.tup [.str "refused",.int j]) G':=fun G' l=>bV.here (h G' l);clear h;show wF K A _ _ [some (.ref e),none] G;exists wF;refine sE he ec k0 ?_;walk_at "wr";refine sE he ec k1 ?_;walk_at "wr";refine sE he ec k2 ?_;walk_at "wr";refine sE he ec k3 ?_;walk_at "wr";intro p hp;have l1:Le G (aL G p (.lst [.bl b0,.bl b1,.bl b2,.bl b3])) := .new hp;exists a03;refine sE (l1 _ _ he) ec k4 ?_;walk_at "wr";refine sE (l1 _ _ he) ec k5 ?_;walk_at "wr";intro q hq;have l2:=l1.trans (Le.new (o := .lst [.bl b4,.bl b5]) hq);rw [aKN (dU aH hq) aH (by show 4+2<=sizeLine;omega)];intro r hr;have l3:=l2.trans (Le.new (o := .lst ([.bl b0,.bl b1,.bl b2,.bl b3]++[.bl b4,.bl b5])) hr);exists a02;refine ayY (l3 _ _ he) ec kv ?_;walk_at "wr";rw [ab1 c7];refine a9O aoH (fun d=>d) (by show 6 < sizeLine;omega) c7 (fun d hd G' l Q hQ=>?_) (fun d hd _ G' l Q hQ=>?_) fun s hs=>?_
  . have hb:∃ b,d = .bl b:=by
      have hd:d∈[D.bl b0,.bl b1,.bl b2,.bl b3]++[.bl b4,.bl b5]:=hd;simp only [zc,List.nil_append,ig,wj,or_false] at hd;rcases hd with rfl | rfl | rfl | rfl | rfl | rfl <;> exact ⟨_,rfl⟩
    obtain ⟨b,rfl⟩:=hb;walk_at "wr";exact hQ _ (.refl _)
  . walk_at "wr";exact hQ _ (.refl _)
  . rw [afH c7];walk_at "wr";rw [if_neg (by rw [show (Src.items (.lst r ([D.bl b0,.bl b1,.bl b2,.bl b3]++[.bl b4,.bl b5])))=[D.bl b0,.bl b1,.bl b2,.bl b3]++[.bl b4,.bl b5] from rfl,h1];decide)];exists a01;have l4:=Le.new (o := .lst (((Src.items (.lst r ([D.bl b0,.bl b1,.bl b2,.bl b3]++[.bl b4,.bl b5]))).filter aoH).map fun d=>d)) hs;have lr:=yQ l4 (c7 (xs:=[D.bl b0,.bl b1,.bl b2,.bl b3]++[.bl b4,.bl b5]));rw [ayO,lr];refine ⟨rfl,?_⟩;refine ap4 lr rfl j hj hn ?_;walk_at "wr";exact h' _ (l3.trans l4)
theorem a8R (T:Txt K mg A) (he:G e=some (.exn A.bL)) (h:∀ G',Le G G'->R (.tup [.str "refused",.int 5]) G'):gM K A [.ref e] G R EX :=
  abU (j:=5) he T.aiR T.sY T.fC T.gP T.gO T.dM T.cX T.fD rfl rfl (by intro m hm;match m,hm with | 0,_=>simp | 1,_=>simp | 2,_=>simp | 3,_=>simp | 4,_=>simp) h
theorem a3O (T:Txt K mg A) (he:G e=some (.exn A.aN)) (h:∀ G',Le G G'->R (.tup [.str "refused",.int 4]) G'):gM K A [.ref e] G R EX :=
  abU (j:=4) he T.a8O T.lR T.cY T.dO T.dN T.cJ T.cD T.cZ rfl rfl (by intro m hm;match m,hm with | 0,_=>simp | 1,_=>simp | 2,_=>simp | 3,_=>simp) h
noncomputable def Wd (wd:D) (am dm:Int):Prop:=(wd = .str "put" /\ dm=am)∨(wd = .str "take" /\ dm=-am)∨(wd = .str "shift" /\ dm=0)
theorem aFW (T:Txt K mg A) (s:SH A sh x y g room st M c G) (v:Shv room n M c) (hn:n < 800) {a2 p2:Int} (hw:Wd wd am dm) (hl:0<=lot/\lot<=999) (b:OkB x y a p) (b2:OkB x y a2 p2) (ha:1<=am/\am<=1000000) (hr:0<=room)
    (h0:∀ (j:Int) G',j=4∨j=5->Le G G'->R (.tup [.str "refused",.int j]) G')
    (h1:∀ M' c' G',Did A sh x y g room st n M c G lot dm M' c' G'->R .non G'):sJ K A [.ref sh,.tup [wd,.int lot,.tup [.int a,.int p],.tup [.int a2,.int p2],.int am]] G R EX:=by
  refine ⟨rfl,?_⟩;have h0':∀ (j:Int) G',j=4∨j=5->Le G G'->bV R (.tup [.str "refused",.int j]) G':=fun j G' a b=>bV.here (h0 j G' a b);have h1':∀ M' c' G',Did A sh x y g room st n M c G lot dm M' c' G'->bV R .non G':=fun M' c' G' a=>bV.here (h1 M' c' G' a);clear h0 h1;show a1B K A _ _ [some (.ref sh),some (.tup [wd,.int lot,.tup [.int a,.int p],.tup [.int a2,.int p2],.int am]),none,none,none,none,none,none] G;exists a1B;rw [afO rfl];rcases hw with ⟨rfl,rfl⟩ | ⟨rfl,rfl⟩ | ⟨rfl,rfl⟩
  . exists pQ,lA s.sh (m := "put") rfl;refine azJ s v hn hl b ha hr ?_ h1';refine ⟨T.cA,fun x hx=>?_⟩;walk_at "wr";exact a8R T aH fun G' l=>h0' 5 G' (.inr rfl) ((Le.new hx).trans l)
  . exists pQ,p8,lA s.sh (m := "take") rfl;refine auM s v hn hl b ha hr ?_ h1';refine ⟨T.bN,fun x hx=>?_⟩;walk_at "wr";exact a3O T aH fun G' l=>h0' 4 G' (.inl rfl) ((Le.new hx).trans l)
  . exists pQ,p8,xU,lA s.sh (m := "shift") rfl;refine azK s v hn hl b b2 ha hr ?_ ?_ h1'
    . refine ⟨T.bN,fun x hx=>?_⟩;walk_at "wr";exact a3O T aH fun G' l=>h0' 4 G' (.inl rfl) ((Le.new hx).trans l)
    . refine ⟨T.cA,fun x hx=>?_⟩;walk_at "wr";exact a8R T aH fun G' l=>h0' 5 G' (.inr rfl) ((Le.new hx).trans l)
noncomputable def anC (x y:Nat) (ds:List D):Prop:=ds.length=4/\∀ d∈ds,∃ a p:Int,d = .tup [.int a,.int p]/\OkB x y a p
theorem azL (o:OkP x y g) (hG:G a0=some (.rol (ns.map D.int))) (h:∀ ds r G',anC x y ds->Le G G'->G' r=some (.lst ds)->R (.ref r) G'):pR K A [.ref a0,plD x y g] G R EX:=by
  refine ⟨rfl,?_⟩;have h':∀ ds r G',anC x y ds->Le G G'->G' r=some (.lst ds)->bV R (.ref r) G':=fun ds r G' a b c=>bV.here (h ds r G' a b c);clear h;have o1:=o.x0;have o2:=o.y0;show yX K A _ _ [some (.ref a0),some (plD x y g),none,none,none,none] G;exists yX;refine z9 (k:=3) hG (by omega) ?_;generalize cellAt ns 3=c;have x0:0 < (x:Int):=by omega
  have y0:0 < (y:Int):=by omega
  have mx:∀ i:Int,0<=i % (x:Int)/\i % (x:Int) < x:=fun i=>⟨zq i (by omega),Int.emod_lt_of_pos i (by omega)⟩;have my:∀ i:Int,0<=i % (y:Int)/\i % (y:Int) < y:=fun i=>⟨zq i (by omega),Int.emod_lt_of_pos i (by omega)⟩;have ok:∀ i j:Int,OkB x y (i % (x:Int)) (1+j % (y:Int)):=fun i j=>⟨(mx i).1,(mx i).2,by have:=(my j).1;omega,by have:=(my j).2;omega⟩;unfold plD;obtain ⟨a1,ea1⟩:∃ a1,a1=c % (x:Int):=⟨_,rfl⟩;obtain ⟨p1,ep1⟩:∃ p1,p1=1+c / 26 % (y:Int):=⟨_,rfl⟩;obtain ⟨p2,ep2⟩:∃ p1,p1=1+c / 2600 % (y:Int):=⟨_,rfl⟩;obtain ⟨N,eN,hN⟩:∃ N:Int,N=260000/\0 < N/\N < 1073741824:=⟨_,rfl,by omega,by omega⟩;obtain ⟨a3,ea3⟩:∃ a1,a1=c / N % (x:Int):=⟨_,rfl⟩;obtain ⟨a4,ea4⟩:∃ a1,a1=c / 7 % (x:Int):=⟨_,rfl⟩;obtain ⟨p4,ep4⟩:∃ p1,p1=1+c / 11 % (y:Int):=⟨_,rfl⟩;have b1:OkB x y a1 p1:=by rw [ea1,ep1];exact ok _ _
  have b2:OkB x y a1 p2:=by rw [ea1,ep2];exact ok _ _
  have b3:OkB x y a3 p1:=by rw [ea3,ep1];exact ok _ _
  have b4:OkB x y a4 p4:=by rw [ea4,ep4];exact ok _ _
  exists a1F;rw [← ea1,← ep1];exists a1E;rw [← ep2];simp only [a1D];rw [← eN];simp (implicitDefEqProofs:=false) only [L5.aAN,L5.aAO,L5.aAP,L5.atF,L5.aK7,L5.atA,L5.atB,L5.x_c];rw [amS hN,amQ,atM x0,amR,← ea3];clear ea3 hN eN;walk_at "wr";exists a1C;rw [← ea4,← ep4];intro r hr;refine h' [.tup [.int a1,.int p1],.tup [.int a1,.int p2],.tup [.int a3,.int p1],.tup [.int a4,.int p4]] r _ ⟨rfl,?_⟩ (.new hr) aH;exact all_cons ⟨_,_,rfl,b1⟩ (all_cons ⟨_,_,rfl,b2⟩ (all_cons ⟨_,_,rfl,b3⟩ (all_cons ⟨_,_,rfl,b4⟩ all_nil)))
theorem aFX {k:Nat} (hk:k < 100) (hr:1<=room/\room<=1000000) (hG:G a0=some (.rol (ns.map D.int))) (sp:anC x y ds) (hs:G r=some (.lst ds))
    (h:∀ wd lot a p a2 p2 am dm G',Le G G'->Wd wd am dm->0<=lot/\lot<=999->OkB x y a p->OkB x y a2 p2->1<=am/\am<=1000000->R (.tup [wd,.int lot,.tup [.int a,.int p],.tup [.int a2,.int p2],.int am]) G'):sO K A [.ref a0,.int (k:Int),.ref r,.int room] G R EX:=by
  have big:10000 < sizeLine:=by decide
  refine ⟨rfl,?_⟩;have h':∀ wd lot a p a2 p2 am dm G',Le G G'->Wd wd am dm->0<=lot/\lot<=999->OkB x y a p->OkB x y a2 p2->1<=am/\am<=1000000->bV R (.tup [wd,.int lot,.tup [.int a,.int p],.tup [.int a2,.int p2],.int am]) G':=fun _ _ _ _ _ _ _ _ _ a b c d e f=>bV.here (h _ _ _ _ _ _ _ _ _ a b c d e f);clear h;show a1G K A _ _ [some (.ref a0),some (.int k),some (.ref r),some (.int room),none,none,none,none,none] G;exists a1G;rw [show (10:Int)+2 * (k:Int)=((10+2 * k:Nat):Int) by omega];refine z9 (k:=10+2 * k) hG (by omega) ?_;generalize cellAt ns (10+2 * k)=c;exists a3M;rw [show (11:Int)+2 * (k:Int)=((11+2 * k:Nat):Int) by omega];refine z9 (k:=11+2 * k) hG (by omega) ?_;generalize cellAt ns (11+2 * k)=c2;exists a3L;intro q1 n1;refine a3Z c7 (by omega) (by show c % 5 < 5;omega) fun wd hwd=>?_;have l1:=Le.new (o := .lst [D.str "put",.str "put",.str "take",.str "shift",.str "shift"]) n1;generalize hG1:aL G q1 _=G1 at l1 ⊢
  have hW:∀ am,∃ dm,Wd wd am dm:=fun am=>by
    simp only [ig,wj,or_false] at hwd;rcases hwd with rfl | rfl | rfl | rfl | rfl
    . exact ⟨_,.inl ⟨rfl,rfl⟩⟩
    . exact ⟨_,.inl ⟨rfl,rfl⟩⟩
    . exact ⟨_,.inr (.inl ⟨rfl,rfl⟩)⟩
    . exact ⟨_,.inr (.inr ⟨rfl,rfl⟩)⟩
    . exact ⟨_,.inr (.inr ⟨rfl,rfl⟩)⟩
  exists a3K;refine z9 (k:=4) (l1 _ _ hG) (by omega) ?_;generalize cellAt ns 4=c4;walk_at "wr";refine z9 (k:=5) (l1 _ _ hG) (by omega) ?_;generalize cellAt ns 5=c5;walk_at "wr";intro q2 n2;have l2:=l1.trans (Le.new (o := .lst [.int (c4 % 1000),.int (c5 % 1000),.int 0,.int 999,.int 7]) n2);have aKW:aL G1 q2 (.lst [.int (c4 % 1000),.int (c5 % 1000),.int 0,.int 999,.int 7]) q2=some (.lst [.int (c4 % 1000),.int (c5 % 1000),.int 0,.int 999,.int 7]):=aH;generalize aL G1 q2 _=G2 at l2 aKW ⊢;exists a3J;intro q3 n3;have l3:=l2.trans (Le.new (o := .lst [D.int (1+c2 / 7 % if 1 < room / 2 then room / 2 else 1),.int (1+c2 / 7 % room),.int 1,.int room]) n3);refine a3Z c7 (by omega) (by show c2 % 4 < 4;omega) fun z hz=>?_
  obtain ⟨t,rfl,ht⟩:∃ t:Int,z = .int t/\1<=t:=by
    simp only [ig,wj,or_false] at hz;rcases hz with rfl | rfl | rfl | rfl
    . exact ⟨_,rfl,by have:=zq (c2 / 7) (show (if 1 < room / 2 then room / 2 else 1:Int)≠0 by split <;> omega);omega⟩
    . exact ⟨_,rfl,by have:=zq (c2 / 7) (show room≠0 by omega);omega⟩
    . exact ⟨_,rfl,by omega⟩
    . exact ⟨_,rfl,by omega⟩
  have hq2:=(Le.new (o := .lst [D.int (1+c2 / 7 % if 1 < room / 2 then room / 2 else 1),.int (1+c2 / 7 % room),.int 1,.int room]) n3) _ _ aKW;generalize aL _ q3 _=G3 at l3 hq2 ⊢;have hs3:=l3 _ _ hs;have e6:(10:Int) ^ Int.toNat 6=1000000:=by decide
  exists a3I;refine a3Z (wZ hq2) (by omega) (by show c / 5 % 5 < 5;omega) fun z hz=>?_
  obtain ⟨lot,rfl,hl⟩:∃ t:Int,z = .int t/\0<=t/\t<=999:=by
    simp only [ig,wj,or_false] at hz;rcases hz with rfl | rfl | rfl | rfl | rfl
    . exact ⟨_,rfl,by omega⟩
    . exact ⟨_,rfl,by omega⟩
    . exact ⟨_,rfl,by omega⟩
    . exact ⟨_,rfl,by omega⟩
    . exact ⟨_,rfl,by omega⟩
  walk_at "wr";refine a3Z (wZ hs3) (by omega) (by rw [sp.1];show c / 25 % 4 < 4;omega) fun z hz=>?_;obtain ⟨a,p,rfl,b⟩:=sp.2 z hz;walk_at "wr";refine a3Z (wZ hs3) (by omega) (by rw [sp.1];show c / 100 % 4 < 4;omega) fun z hz=>?_;obtain ⟨a2,p2,rfl,b2⟩:=sp.2 z hz;walk_at "wr";rw [e6];obtain ⟨dm,hw⟩:=hW (if (1000000:Int) < t then 1000000 else t);exact h' _ _ _ _ _ _ _ dm _ l3 hw hl b b2 (by split <;> omega)
theorem anD {κ α:Type} [DecidableEq κ] {k:κ} {v:α} {l:List (κ×α)} (h:k ∉ l.map (·.1)):dR l k v=l++[(k,v)]:=by
  unfold dR;rw [uR.mpr h];rfl
theorem aeE:∀ qs:List (Int×Int),a7B (qs.map prV)=some (qs.map fun q=>(.inl q.1,.int q.2))
  | []=>rfl
  | q :: r=>by
    rw [dj,a7B,aeE r];rfl
theorem fold_all:∀ (qs ds:List (Int×Int)),((ds++qs).map (·.1)).Nodup->aaR (ds.map jC) (qs.map fun q=>(.inl q.1,.int q.2))=(ds++qs).map jC
  | [],ds,_=>by rw [uw];rfl
  | q :: r,ds,nd=>by
    have hn:q.1 ∉ ds.map (·.1):=fun h=>by
      rw [jk,qy] at nd;exact nd.2.2 q.1 h q.1 (by simp) rfl
    show aaR (dR (ds.map jC) (.inl (.inl q.1)) (.int q.2)) (r.map fun q=>(.inl q.1,.int q.2))=_;rw [a65,anD hn,fold_all r (ds++[(q.1,q.2)]) (by rw [List.append_assoc];exact nd),List.append_assoc];rfl
theorem apC (h:bY G r=some (qs.map prV)) (nd:(qs.map (·.1)).Nodup):yN [.ref r] G R=∀ e,G e=none->R (.ref e) (aL G e (.bQ false (qs.map jC))):=by
  unfold L2.yN;simp only [h,aeE];rw [show aaR [] (qs.map fun q=>(.inl q.1,.int q.2))=qs.map jC from fold_all qs [] nd]
noncomputable abbrev kq (q:Int×Int):List Key:=ky q.1 q.2
theorem anE:∀ {M:List (List Key×Addr)},(∀ z∈M,∃ a p:Int,z.1=ky a p)->∃ ps:List (Int×Int),M.map (·.1)=ps.map kq
  | [],_=>⟨[],rfl⟩
  | z :: r,h=>by
    obtain ⟨a,p,e⟩:=h z (.head _);obtain ⟨ps,e2⟩:=anE (M:=r) fun y hy=>h y (.tail _ hy);exact ⟨(a,p) :: ps,by rw [dj,dj,e,e2]⟩
theorem sort_keys (h:G st=some (.bQ true (M.map ktD))) (kn:(M.map (·.1)).Nodup) (ks:∀ z∈M,∃ a p:Int,z.1=ky a p) (hl:M.length < 64) (k:∀ (qs:List (Int×Int)) (r:Addr),(qs.map kq).Perm (M.map (·.1))->G r=none->R (.ref r) (aL G r (.lst (qs.map prV)))):vA [.ref st] G R:=by
  obtain ⟨ps,e⟩:=anE ks;have nd:ps.Nodup:=List.Pairwise.of_map kq (fun a b h e=>h (by rw [e])) (e ▸ kn);have len:ps.length=M.length:=by have:=congrArg List.length e;simpa using this.symm
  refine au1 (ps:=ps) h ?_ nd (by omega) fun qs p1 _ r hr=>k qs r (e ▸ p1.map kq) hr;rw [lg,show (fun q:DK×D=>dkD q.1) ∘ ktD=(fun ks=>dkD (.inr ks)) ∘ (fun z:List Key×Addr=>z.1) from rfl,← lg,e,lg];rfl
structure Lyg (M:List (List Key×Addr)) (c:Addr->List (Int×Int)) (G:Gp) (t:Addr) (N:List (List Key×Addr)) (c':Addr->List (Int×Int)) (G':Gp):Prop where
  t0:G t=none
  tt:G' t=some (.bQ true (N.map ktD))
  ke:(N.map (·.1)).Perm (M.map (·.1))
  ins:∀ z∈N,G' z.2=some (.bQ false ((c' z.2).map jC))/\(c' z.2).Perm (lV M c z.1)/\G z.2=none
theorem ag1 (s:SH A sh x y g room st M c G) (v:Shv room n M c) (hn:n < 64) (h:∀ t N c' G',Le G G'->Lyg M c G t N c' G'->R (.ref t) G'):cW K A [.ref sh] G R EX:=by
  have big:10000 < sizeLine:=by decide
  refine ⟨rfl,?_⟩;show rE K A _ _ [some (.ref sh)] G;exists rE;rw [jL s.sh rfl];walk_at "wr";refine ⟨rfl,?_⟩;show a4H K A _ _ [some (.ref st),none,none] G;exists a4H;intro t ht;have l1:Le G (aL G t (.bQ true [])) := .new ht;exists a69;refine sort_keys (l1 _ _ s.st) v.kn v.ks (xu v.len hn) fun qs r pq hr=>?_;have l2:Le (aL G t (.bQ true [])) (aL (aL G t (.bQ true [])) r (.lst (qs.map prV))) := .new hr;have nr:r≠t:=fun z=>by rw [z] at hr;rw [aH] at hr;cases hr
  have qn:(qs.map kq).Nodup:=pq.nodup_iff.mpr v.kn;rw [ap2 c7];refine atV (fun k ρ G'=>bY G' r=some (qs.map prV)/\∃ r2 N c',ρ=[some (.ref st),some (.ref t),r2]/\Le G G'/\G' t=some (.bQ true (N.map ktD))/\N.map (·.1)=(qs.take k).map kq/\∀ z∈N,G' z.2=some (.bQ false ((c' z.2).map jC))/\(c' z.2).Perm (lV M c z.1)/\G z.2=none) ⟨c7,_,[],c,rfl,l1.trans l2,l2 _ _ aH,rfl,fun z hz=>nomatch hz⟩ (fun k ρ G' h=>h.1) (fun k d' ρ G' hd' hh=>?_) fun ρ G' hh=>?_
  . obtain ⟨hl,r2,N,c',rfl,l3,tt,ek,hi⟩:=hh;obtain ⟨q,eq,rfl⟩:=a7F hd';obtain ⟨a,p⟩:=q;have hm:kq (a,p)∈M.map (·.1):=pq.mem_iff.mp (gw.mpr ⟨_,je eq,rfl⟩);obtain ⟨⟨kk,d⟩,hz,e1⟩:=gw.mp hm;have e1:kk=ky a p:=e1;subst e1;have vd:=wG v.kn hz;have hz':=hz;have hd:=s.ins _ hz;obtain ⟨bn,bl⟩:Bin room (c d)/\(c d).length<=n:=v.bn _ hz;exists a3D;rw [show prV (a,p) = .tup [.int a,.int p] from rfl];rw [a5Z (l3 _ _ s.st) nU rfl (by rw [nW,vd];rfl)];walk_at "wr";refine au0 (ps:=c d) (l3 _ _ hd) (xu bl hn) fun ps p1 _ r3 h3=>?_;walk_at "wr";have lr:Le G' (aL G' r3 (.lst (ps.map prV))) := .new h3;refine (show yN [.ref r3] (aL G' r3 (.lst (ps.map prV))) _ from ?_);rw [apC c7 ((p1.map _).nodup_iff.mpr bn.nd)];intro e he;have le:Le _ (aL (aL G' r3 (.lst (ps.map prV))) e (.bQ false (ps.map jC))) := .new he;walk_at "wr";have t3:=le _ _ (lr _ _ tt);have ne:e≠t:=fun z=>by rw [z] at he;rw [lr _ _ tt] at he;cases he
    have nN:ky a p ∉ N.map (·.1):=by
      rw [ek];intro w;have nd2:((qs.take (k+1)).map kq).Nodup:=qn.sublist ((List.take_sublist _ _).map _);rw [yd,eq,jk,qy] at nd2;exact nd2.2.2 _ w _ (by simp) rfl
    have lN:N.length<=k:=by
      have:=congrArg List.length ek;simp at this;omega
    have lk:k < 64:=by
      have h1:k < qs.length:=(fj.mp eq).1;have h2:=pq.length_eq;simp at h2;have:=v.len;omega
    rw [a66 t3 nU rfl (by rw [dh];omega)]
    have ep:dR (N.map ktD) (.inr (ky a p)) (.ref e)=(N++[(ky a p,e)]).map ktD:=by
      rw [anD,jk]
      . rfl
      . intro w;obtain ⟨z,hz,e2⟩:=gw.mp w;obtain ⟨y,hy,rfl⟩:=gw.mp hz;exact nN (gw.mpr ⟨y,hy,Sum.inr.inj e2⟩)
    rw [ep]
    have ge:∀ z∈N,z.2≠e:=fun z hz w=>by
      have:=lr _ _ (hi z hz).1;rw [w,he] at this;cases this
    have gt:∀ z∈N,z.2≠t:=fun z hz w=>by
      have:=(hi z hz).1;rw [w,tt] at this;cases this
    refine ⟨?_,_,N++[(ky a p,e)],setC c' e ps,rfl,fun q u z=>?_,aH,?_,fun z hz=>?_⟩
    . have z:=yQ le (yQ lr hl);unfold L2.bY at z ⊢;rw [bD nr];exact z
    . have nq:q≠t:=fun w=>by rw [w,ht] at z;cases z
      rw [bD nq];exact le _ _ (lr _ _ (l3 _ _ z))
    . rw [jk,ek,yd,eq,jk];rfl
    . rcases oh.mp hz with hz | hz
      . obtain ⟨i1,i2,i3⟩:=hi z hz;rw [sW (ge z hz),bD (gt z hz)];exact ⟨le _ _ (lr _ _ i1),i2,i3⟩
      . cases jt.mp hz;rw [show setC c' e ps (ky a p,e).2=ps from pH,show (ky a p,e).2=e from rfl,bD ne];refine ⟨aH,?_,?_⟩
        . rw [show lV M c (ky a p,e).1=c d from abT (z:=(ky a p,d)) v.kn hz'];exact p1
        . cases ge:G e with
          | none=>rfl
          | some u =>
            have:=lr _ _ (l3 _ _ ge);rw [he] at this;cases this
  . obtain ⟨_,r2,N,c',rfl,l,tt,ek,hi⟩:=hh;exists a68;refine bV.here (bV.here (h t N c' G' l ⟨ht,tt,?_,hi⟩));rw [ek];have:qs.take (qs.map prV).length=qs:=by rw [dh,za]
    rw [this];exact pq
theorem aiY {l m:List Int} (h:l.Perm m):l.sum=m.sum:=by
  induction h with
  | nil=>rfl
  | cons x _ ih=>rw [yu,yu,ih]
  | swap x y l=>simp only [yu];omega
  | trans _ _ i1 i2=>rw [i1,i2]
noncomputable def auN (M:List (List Key×Addr)) (c:Addr->List (Int×Int)) (ks:List (List Key)) (l:Int):Int:=(ks.map fun k=>aW (lV M c k) l).sum
theorem aiZ (kn:(M.map (·.1)).Nodup) {ks:List (List Key)} (h:ks.Perm (M.map (·.1))):auN M c ks l=tot M c l:=by
  unfold auN;rw [aiY (h.map _),lg];unfold tot;congr 1;refine um fun z hz=>?_;show aW (lV M c z.1) l=_;rw [abT kn hz]
noncomputable def dv (d:D):List Key:=match a0G d with
  | some (.inr k)=>k
  | _=>[]
noncomputable def pcE (q:(Int×Int)×Int):D := .tup [prV q.1,.int q.2]
theorem aj0 {M:List (List Key×Addr)} {c:Addr->List (Int×Int)} {l:Int}:∀ {qs:List (Int×Int)},((qs.filter fun q=>(aK (lV M c (kq q)) l).isSome).map fun q=>aW (lV M c (kq q)) l).sum=auN M c (qs.map kq) l
  | []=>rfl
  | q :: r=>by
    have ih:=aj0 (M:=M) (c:=c) (l:=l) (qs:=r);show _=aW (lV M c (kq q)) l+auN M c (r.map kq) l;rw [mz];split
    . rw [dj,yu,ih]
    . rename_i h;rw [ih]
      have:aW (lV M c (kq q)) l=0:=by
        unfold aW;cases e:aK (lV M c (kq q)) l with
        | none=>rfl
        | some v=>rw [e] at h;exact absurd rfl h
      omega
theorem auO (s:SH A sh x y g room st M c G) (v:Shv room n M c) (hn:n < 64) (hl:0<=lot/\lot<=999) (h:∀ (ws:List ((Int×Int)×Int)) r G',Le G G'->G' r=some (.lst (ws.map pcE))->ws.length < 64->(ws.map (·.2)).sum=tot M c lot->R (.ref r) G'):jF K A [.ref sh,.int lot] G R EX:=by
  have big:10000 < sizeLine:=by decide
  refine ⟨rfl,?_⟩;show oZ K A _ _ [some (.ref sh),some (.int lot)] G;exists oZ;refine a1L hl ?_;exists u5;rw [jL s.sh rfl];walk_at "wr";refine sort_keys s.st v.kn v.ks (xu v.len hn) fun qs r pq hr=>?_;rw [ab1 c7];have l0:Le G (aL G r (.lst (qs.map prV))) := .new hr
  have lq:qs.length < 64:=by
    have h2:=pq.length_eq;simp at h2;have:=v.len;omega
  have get:∀ z∈qs.map prV,∃ a p d,z = .tup [.int a,.int p]/\dv z=ky a p/\aK M (ky a p)=some d/\lV M c (ky a p)=c d/\G d=some (.bQ false ((c d).map jC)):=fun z hz=>by
    obtain ⟨⟨a,p⟩,hq,rfl⟩:=gw.mp hz;have hm:kq (a,p)∈M.map (·.1):=pq.mem_iff.mp (gw.mpr ⟨_,hq,rfl⟩);obtain ⟨⟨kk,d⟩,hz,e1⟩:=gw.mp hm;have e1:kk=ky a p:=e1;subst e1;exact ⟨a,p,d,rfl,rfl,wG v.kn hz,abT v.kn hz,s.ins _ hz⟩
  refine a9O (fun z=>(aK (lV M c (dv z)) lot).isSome) (fun z => .tup [z,.int (aW (lV M c (dv z)) lot)]) (by show (qs.map prV).length < sizeLine;rw [dh];omega) c7 (fun z hz G' l Q hQ=>?_) (fun z hz hf G' l Q hQ=>?_) fun q hq=>?_
  . obtain ⟨a,p,d,rfl,ed,ev,eh,hd⟩:=get z hz;have l2:=l0.trans l;walk_at "wr";rw [jL (l2 _ _ s.sh) rfl,a5Z (l2 _ _ s.st) nU rfl (by rw [nW,ev];rfl),aFP (l2 _ _ hd) dD rfl,lB];simp only [ed,eh] at hQ;walk_at "wr";cases e:aK (c d) lot with
    | none=>rw [e] at hQ;exact hQ _ (.refl _)
    | some w=>rw [e] at hQ;exact hQ _ (.refl _)
  . obtain ⟨a,p,d,rfl,ed,ev,eh,hd⟩:=get z hz;have l2:=l0.trans l;simp only [ed,eh] at hf hQ;obtain ⟨w,ew⟩:=xr.mp hf;have e0:aW (c d) lot=w:=by unfold aW;rw [ew];rfl
    rw [e0] at hQ;walk_at "wr";rw [jL (l2 _ _ s.sh) rfl,a5Z (l2 _ _ s.st) nU rfl (by rw [nW,ev];rfl),a5Z (l2 _ _ hd) dD rfl (by rw [lB,ew];rfl)];walk_at "wr";exact hQ _ (.refl _)
  . refine bV.here (h ((qs.filter fun q=>(aK (lV M c (kq q)) lot).isSome).map fun q=>(q,aW (lV M c (kq q)) lot)) q _ (l0.trans (.new hq)) ?_ ?_ ?_)
    . rw [aH];show some (GO.lst (((qs.map prV).filter _).map _))=_;rw [List.filter_map,lg,lg];rfl
    . rw [dh];exact xu (vo _ _) lq
    . rw [lg];exact aj0.trans (aiZ v.kn pq)
noncomputable def apD (ps:List (Int×Int)) (l:Int):Int:=(ps.map fun q=>if q.1=l then q.2 else 0).sum
theorem apE (h:ps[j]?=some q):apD (ps.take (j+1)) l=apD (ps.take j) l+if q.1=l then q.2 else 0:=by
  unfold apD;rw [yd,h,jk,List.sum_append];simp
theorem aj1 {l:Int}:∀ {ps:List (Int×Int)},(ps.map (·.1)).Nodup->aW ps l=apD ps l
  | [],_=>rfl
  | q :: r,nd=>by
    rw [dj,jg] at nd;show _=(if q.1=l then q.2 else 0)+apD r l;rw [cQ,← aj1 nd.2];split
    . rename_i e;rw [abR (e ▸ nd.1)];omega
    . omega
variable {sm:Addr}
theorem apF {r0 r1 r2 r6 r7:Option D} {t:Addr} {od:Obj} (pn:(ps.map (·.1)).Nodup) (pp:∀ q∈ps,1<=q.2) (ht:G t=some (.rdc od true (N.map ktD))) (hv:aK N (ky a p)=some d) (hd:G d=some (.bQ false (ps.map jC))) (hs:G sm=some (.bQ false (ss.map jC))) (nsd:sm≠d) (sn:(ss.map (·.1)).Nodup) (sp:∀ q∈ss,1<=q.2) (hl:ss.length+ps.length < 10000)
    (h:∀ ss' r6 r7 G',G' sm=some (.bQ false (ss'.map jC))->(ss'.map (·.1)).Nodup->(∀ q∈ss',1<=q.2)->ss'.length<=ss.length+ps.length->(∀ l,aW ss' l=aW ss l+aW ps l)->(∀ q u,q≠sm->G q=some u->G' q=some u)->F.nx [r0,r1,r2,some (.ref t),some (.ref sm),some (.tup [.int a,.int p]),r6,r7] G') :
    jU K A ex F [r0,r1,r2,some (.ref t),some (.ref sm),some (.tup [.int a,.int p]),r6,r7] G:=by
  have big:10000 < sizeLine:=by decide
  have nst:sm≠t:=fun z=>by rw [z,ht] at hs;cases hs
  exists jU;rw [xB (xA ht) nU rfl (by rw [nW,hv];rfl),azD hd];intro od2;refine au5 (fun j ρ G'=>G' d=some (.rdc od2 false (ps.map jC))/\∃ r6 r7 ss',ρ=[r0,r1,r2,some (.ref t),some (.ref sm),some (.tup [.int a,.int p]),r6,r7]/\G' sm=some (.bQ false (ss'.map jC))/\(ss'.map (·.1)).Nodup/\(∀ q∈ss',1<=q.2)/\ss'.length<=ss.length+j/\(∀ l,aW ss' l=aW ss l+apD (ps.take j) l)/\(∀ q u,q≠sm->q≠d->G q=some u->G' q=some u)) ⟨aH,_,_,ss,rfl,by rw [bD nsd];exact hs,sn,sp,au _,fun l=>by rw [List.take_zero];show _=_+0;omega,fun q u n1 n2 w=>by rw [bD n2];exact w⟩ (fun k ρ G' z=>z.1) (fun j q ρ G' eq0 z=>?_) fun ρ G' z=>?_
  . obtain ⟨hd1,r6,r7,ss',rfl,hs1,sn1,sp1,hl1,hv1,k1⟩:=z;obtain ⟨q,eq,rfl⟩:=a7F eq0;obtain ⟨l0,w⟩:=q;have hj:j < ps.length:=(fj.mp eq).1;have hw:1<=w:=pp (l0,w) (je eq);rw [show D.tup [dkD (jC (l0,w)).1,(jC (l0,w)).2] = .tup [.int l0,.int w] from rfl,afO rfl];exists oM;rw [if_neg (by simpa using hw)];exists nH,fZ hs1;rw [gA hs1 dD rfl]
    have eg:(aK (ss'.map jC) (.inl (.inl l0))).getD (.int 0) = .int (aW ss' l0):=by
      rw [lB];unfold aW;cases aK ss' l0 <;> rfl
    rw [eg];walk_at "wr";rw [a66 hs1 dD rfl (by rw [dh];omega),a65];obtain ⟨q1,q2,q3,q4,q5⟩:=a6J (l:=l0) (w:=aW ss' l0+w) sn1;have v0:=a6K (l:=l0) sp1;refine ⟨by rw [bD (Ne.symm nsd)];exact hd1,_,_,dR ss' l0 (aW ss' l0+w),rfl,aH,q3,fun q hq=>?_,by omega,fun l=>?_,fun q u n1 n2 z=>by rw [bD n1];exact k1 q u n1 n2 z⟩
    . rcases q4 q hq with z | z
      . exact sp1 q z
      . rw [z];show 1<=aW ss' l0+w;omega
    . rw [q1,apE eq];have h1:=hv1 l;by_cases e:l=l0
      . rw [if_pos e,if_pos e.symm,← e];rw [h1];show _+_+w=_+(_+w);omega
      . rw [if_neg e,if_neg (Ne.symm e),h1];omega
  . obtain ⟨hd1,r6,r7,ss',rfl,hs1,sn1,sp1,hl1,hv1,k1⟩:=z;rw [dh] at hl1 hv1;refine h ss' r6 r7 _ (by rw [bD nsd];exact hs1) sn1 sp1 hl1 (fun l=>by rw [hv1,za,aj1 pn]) fun q u n1 z=>?_;by_cases e:q=d
    . subst e;rw [aH,← z,hd]
    . rw [bD e];exact k1 q u n1 e z
theorem auP {k:Nat} (h:N[k]?=some z):tot (N.take (k+1)) c l=tot (N.take k) c l+aW (c z.2) l:=by
  unfold tot;rw [yd,h,jk,List.sum_append];simp
theorem auQ {r0 r1 r5 r6 r7:Option D} {t:Addr} (ht:G t=some (.bQ true (N.map ktD))) (hs:G sm=some (.bQ false [])) (kn:(N.map (·.1)).Nodup) (ks:∀ z∈N,∃ a p:Int,z.1=ky a p) (hi:∀ z∈N,G z.2=some (.bQ false ((c' z.2).map jC))/\sm≠z.2/\Bin room (c' z.2)/\(c' z.2).length < 64) (hl:N.length < 64)
    (h:∀ ss r5 r6 r7 G',G' sm=some (.bQ false (ss.map jC))->(ss.map (·.1)).Nodup->(∀ q∈ss,1<=q.2)->(∀ l,aW ss l=tot N c' l)->ss.length < 9000->(∀ q u,q≠sm->G q=some u->G' q=some u)->jG K A ex F [r0,r1,some (.int room),some (.ref t),some (.ref sm),r5,r6,r7] G') :
    nZ K A ex F [r0,r1,some (.int room),some (.ref t),some (.ref sm),r5,r6,r7] G:=by
  have big:10000 < sizeLine:=by decide
  have nst:sm≠t:=fun z=>by rw [z,ht] at hs;cases hs
  exists nZ;rw [afR ht];intro od;refine aiC (fun k ρ G'=>G' t=some (.rdc od true (N.map ktD))/\∃ r5 r6 r7 ss,ρ=[r0,r1,some (.int room),some (.ref t),some (.ref sm),r5,r6,r7]/\G' sm=some (.bQ false (ss.map jC))/\(ss.map (·.1)).Nodup/\(∀ q∈ss,1<=q.2)/\ss.length<=64 * k/\(∀ l,aW ss l=tot (N.take k) c' l)/\(∀ q u,q≠sm->q≠t->G q=some u->G' q=some u)) ⟨aH,_,_,_,[],rfl,by rw [bD nst];exact hs,yc,(fun q hq=>nomatch hq),lu _,fun l=>by rw [List.take_zero];rfl,fun q u n1 n2 w=>by rw [bD n2];exact w⟩ (fun k ρ G' z=>z.1) (fun k q ρ G' eq0 z=>?_) fun ρ G' z=>?_
  . obtain ⟨ht1,r5,r6,r7,ss,rfl,hs1,sn1,sp1,hl1,hv1,k1⟩:=z;obtain ⟨⟨kk,d⟩,eq,rfl⟩:=a7F eq0;have hm:=je eq;have hk:k < N.length:=(fj.mp eq).1;obtain ⟨a,p,e1⟩:=ks _ hm;have e1:kk=ky a p:=e1;subst e1;have vd:=wG kn hm;obtain ⟨hd0,nsd,bn,bl⟩:G d=some (.bQ false ((c' d).map jC))/\sm≠d/\Bin room (c' d)/\(c' d).length < 64:=hi _ hm;have ndt:d≠t:=fun z=>by rw [z,ht] at hd0;cases hd0
    have hd1:=k1 _ _ (Ne.symm nsd) ndt hd0;rw [show dkD (ktD (ky a p,d)).1 = .tup [.int a,.int p] from rfl];exists u9;rw [xB (xA ht1) nU rfl (by rw [nW,vd];rfl),au3 (ae7 hd1)];intro lv hlv;have l1:=Le.new (o := .lst (((c' d).map jC).map (·.2))) hlv;rw [aAS (ns:=(c' d).map (·.2)) (by rw [c7,lg,lg];rfl)];walk_at "wr";rw [if_neg (by have:=bn.sm;unfold sm2 at this;simpa using this)];rw [xB (xA (l1 _ _ ht1)) nU rfl (by rw [nW,vd];rfl)];walk_at "wr";intro e he;have l2:=l1.trans (Le.new (o := .bQ false []) he)
    have ee:eqM (c' d) []=false:=by
      have:=List.length_pos_iff.mpr bn.ne;unfold eqM;simp;intro w;exact absurd w bn.ne
    refine .inl ⟨d,e,c' d,[],rfl,rfl,l2 _ _ hd1,aH,?_⟩;rw [ee];walk_at "wr";refine apF bn.nd bn.pos (l2 _ _ ht1) vd (l2 _ _ hd1) (l2 _ _ hs1) nsd sn1 sp1 (by omega) fun ss' r6 r7 G2 hs2 sn2 sp2 hl2 hv2 k2=>?_;refine ⟨k2 _ _ (Ne.symm nst) (l2 _ _ ht1),_,_,_,ss',rfl,hs2,sn2,sp2,by omega,fun l=>by rw [hv2,hv1,auP eq],fun q u n1 n2 z=>k2 _ _ n1 (l2 _ _ (k1 _ _ n1 n2 z))⟩
  . obtain ⟨ht1,r5,r6,r7,ss,rfl,hs1,sn1,sp1,hl1,hv1,k1⟩:=z;rw [dh] at hl1 hv1;refine h ss r5 r6 r7 _ (by rw [bD nst];exact hs1) sn1 sp1 (fun l=>by rw [hv1,za]) (by omega) fun q u n1 z=>?_;by_cases e:q=t
    . subst e;rw [aH,← z,ht]
    . rw [bD e];exact k1 q u n1 e z
theorem azM {t:Bool} {p:Addr} {y:D} {k:DK} (h:G p=some (.bQ t kvs)) (hk:a0G y=some k) (ht:tG k=t):aaM y (.ref p) G R=R (.bl (!(aK kvs k).isSome)) G:=by
  unfold L2.aaM;rw [gA h hk ht]
theorem aFZ {p:Addr} (h:G p=some (.bQ false (ss.map jC))):(aK (ss.map jC) (.inl (.inl l))).getD (.int 0) = .int (aW ss l):=by
  rw [lB];unfold aW;cases aK ss l <;> rfl
theorem SH.keep {t:Bool} (s:SH A sh x y g room st M c G) (hf:G lf=some (.bQ false kvs)) (nm:lf ∉ M.map (·.2)) (h:∀ q u,q≠lf->G q=some u->G' q=some u):SH A sh x y g room st M c G' :=
  ⟨s.o,h _ _ (fun z=>by have:=s.sh;rw [z,hf] at this;cases this) s.sh,h _ _ (fun z=>by have:=s.st;rw [z,hf] at this;cases this) s.st,fun z hz=>h _ _ (fun w=>nm (by rw [← w];exact gw.mpr ⟨z,hz,rfl⟩)) (s.ins z hz)⟩
theorem auR {r2 r3 r5 r6 r7:Option D} (s:SH A sh x y g room st M c G) (v:Shv room n M c) (hn:n < 64) (hf:G lf=some (.bQ false (ls.map jC))) (fn:(ls.map (·.1)).Nodup) (fv:∀ l,aW ls l=tot M c l) (fk:∀ q∈ls,0<=q.1/\q.1<=999) (nm:lf ∉ M.map (·.2)) (hs:G sm=some (.bQ false (ss.map jC))) (sn:(ss.map (·.1)).Nodup) (sp:∀ q∈ss,1<=q.2) (sv:∀ l,aW ss l=tot M c l) (sl:ss.length < 9000) (nsf:sm≠lf)
    (h:∀ G',(∀ q u,q≠sm->G q=some u->G' q=some u)->F.rt (.bl true) G') :
    jG K A ex F [some (.ref sh),some (.ref lf),r2,r3,some (.ref sm),r5,r6,r7] G:=by
  have big:10000 < sizeLine:=by decide
  exists jG;rw [afR hf];intro od;refine aiC (fun k ρ G'=>G' lf=some (.rdc od false (ls.map jC))/\∃ r6,ρ=[some (.ref sh),some (.ref lf),r2,r3,some (.ref sm),r5,r6,r7]/\(∀ q u,q≠lf->G q=some u->G' q=some u)) ⟨aH,_,rfl,fun q u n2 w=>by rw [bD n2];exact w⟩ (fun k ρ G' z=>z.1) (fun k q ρ G' eq0 z=>?_) fun ρ G' z=>?_
  . obtain ⟨hf1,r6,rfl,k1⟩:=z;obtain ⟨⟨l,w⟩,eq,rfl⟩:=a7F eq0;have hm:=je eq;have vw:aK ls l=some w:=wG fn hm;have ew:tot M c l=w:=by rw [← fv];unfold aW;rw [vw];rfl
    have s1:=s.keep (t:=false) hf nm k1;have hs1:=k1 _ _ nsf hs;rw [show dkD (jC (l,w)).1 = .int l from rfl];exists uD,fZ hs1;rw [gA hs1 dD rfl,aFZ hs1,xB (xA hf1) dD rfl (by rw [lB,vw];rfl),sv,ew];walk_at "wr";rw [if_neg (by simp)];refine ⟨by rw [lA s1.sh (m := "places") rfl];trivial,?_⟩;refine auO s1 v hn (fk _ hm) fun ws r G2 l2 hr lw sw=>?_;rw [ab1 (wZ hr)];refine comp_map (fun d=>match d with | .tup [_,z]=>z | _ => .non) (by show (ws.map pcE).length < sizeLine;rw [dh];omega) (wZ hr) (fun d hd G3 l3 Q hQ=>?_) fun p hp=>?_
    . obtain ⟨q,_,rfl⟩:=gw.mp hd;exists pcE;exact hQ _ (.refl _)
    . rw [aAS (ns:=ws.map (·.2)) (by rw [c7];show some ((ws.map pcE).map _)=_;rw [lg,lg];rfl)];have l3:∀ o:GO,Le G' (aL G2 p o):=fun o=>l2.trans (Le.new hp);rw [xB (xA (l3 _ _ _ hf1)) dD rfl (by rw [lB,vw];rfl),sw,ew];walk_at "wr";rw [if_neg (by simp)];exact ⟨l3 _ _ _ hf1,_,rfl,fun q u n1 z=>l3 _ _ _ (k1 _ _ n1 z)⟩
  . obtain ⟨hf1,r6,rfl,k1⟩:=z;generalize hG2:aL G' lf _=G2;have hf2:G2 lf=some (.bQ false (ls.map jC)):=by rw [← hG2,aH]
    have k2:∀ q u,G q=some u->G2 q=some u:=fun q u z=>by
      by_cases e:q=lf
      . subst e;rw [hf2,← z,hf]
      . rw [← hG2,bD e];exact k1 q u e z
    have hs2:=k2 _ _ hs;exists vI;rw [afR hs2];intro od2
    have ef:∀ xs:List D,(xs.filter fun _=>false).map (fun d=>d)=[]:=fun xs=>by
      rw [List.filter_eq_nil_iff.mpr (by simp)];rfl
    refine a9O (fun _=>false) (fun d=>d) (by show ((ss.map jC).map _).length < sizeLine;rw [dh,dh];omega) aH (fun d hd G3 l3 Q hQ=>?_) (fun d hd hf=>by cases hf) fun p hp=>?_
    . obtain ⟨z,hz,rfl⟩:=gw.mp hd;obtain ⟨⟨l,w⟩,hq,rfl⟩:=gw.mp hz;have hw:1<=w:=sp _ hq;have e1:aW ss l=w:=by unfold aW;rw [wG sn hq];rfl
      have e2:aW ls l=w:=by rw [fv,← sv,e1]
      have hf3:G3 lf=some (.bQ false (ls.map jC)):=l3 _ _ (by rw [bD (Ne.symm nsf)];exact hf2);rw [show dkD (jC (l,w)).1 = .int l from rfl];walk_at "wr";rw [azM hf3 dD rfl,lB];cases e3:aK ls l with
      | none =>
        unfold aW at e2;rw [e3] at e2;have:(0:Int)=w:=e2;omega
      | some w2 =>
        walk_at "wr";exact hQ _ (.refl _)
    . rw [ef];intro p2 hp2;rw [ab0 (yQ (.new hp2) c7) c7 rfl rfl];refine h _ fun q u n1 z=>?_;exact (Le.new hp2) _ _ ((Le.new hp) _ _ (by rw [bD n1];exact k2 q u z))
theorem auS (h:ps.Perm qs):sm2 ps=sm2 qs:=aiY (h.map _)
theorem alA (s:SH A sh x y g room st M c G) (v:Shv room n M c) (hn:n < 64) (hf:G lf=some (.bQ false (ls.map jC))) (fn:(ls.map (·.1)).Nodup) (fv:∀ l,aW ls l=tot M c l) (fk:∀ q∈ls,0<=q.1/\q.1<=999) (nm:lf ∉ M.map (·.2)) (h:R (.bl true) G):lF K A [.ref sh,.ref lf,.int room] G R EX:=by
  have big:10000 < sizeLine:=by decide
  refine ⟨rfl,?_⟩;show rF K A _ _ [some (.ref sh),some (.ref lf),some (.int room),none,none,none,none,none] G;exists rF,lA s.sh (m := "lying") rfl;refine ag1 s v hn fun t N c' G1 l1 ly=>?_;exists vJ;intro sm hsm;have l2:Le G1 (aL G1 sm (.bQ false [])) := .new hsm;have kN:(N.map (·.1)).Nodup:=ly.ke.nodup_iff.mpr v.kn
  have inM:∀ z∈N,∃ d,(z.1,d)∈M:=fun z hz=>by
    obtain ⟨⟨k,d⟩,hd,e⟩:=gw.mp (ly.ke.mem_iff.mp (gw.mpr ⟨z,hz,rfl⟩));exact ⟨d,by rw [← e];exact hd⟩
  refine auQ (N:=N) (c':=c') (l2 _ _ ly.tt) aH kN (fun z hz=>?_) (fun z hz=>?_) ?_ fun ss r5 r6 r7 G2 hs2 sn2 sp2 sv2 sl2 k2=>?_
  . obtain ⟨d,hd⟩:=inM z hz;exact v.ks (z.1,d) hd
  . obtain ⟨d,hd⟩:=inM z hz;obtain ⟨i1,i2,i3⟩:=ly.ins z hz;have eh:lV M c z.1=c d:=abT v.kn hd;rw [eh] at i2;obtain ⟨bn,bl⟩:Bin room (c d)/\(c d).length<=n:=v.bn _ hd;refine ⟨l2 _ _ i1,(fun w=>by rw [← w,hsm] at i1;cases i1),⟨fun w=>bn.ne ?_,(i2.map _).nodup_iff.mpr bn.nd,fun q hq=>bn.pos q (i2.mem_iff.mp hq),by rw [auS i2];exact bn.sm⟩,by rw [i2.length_eq];omega⟩;rw [w] at i2;exact i2.symm.eq_nil
  . have:=ly.ke.length_eq;simp at this;have:=v.len;omega
  . have le3:Le G G2:=fun q u z=>by
      refine k2 q u (fun w=>?_) (l2 _ _ (l1 _ _ z));have:=l1 _ _ z;rw [w,hsm] at this;cases this
    have nsf:sm≠lf:=fun w=>by
      have:=l1 _ _ hf;rw [← w,hsm] at this;cases this
    have et:∀ l,tot N c' l=tot M c l:=fun l=>by
      rw [← aiZ v.kn ly.ke];unfold tot auN;rw [lg];congr 1;refine um fun z hz=>?_;obtain ⟨i1,i2,i3⟩:=ly.ins z hz;obtain ⟨d,hd⟩:=inM z hz;obtain ⟨bn,bl⟩:Bin room (c d)/\(c d).length<=n:=v.bn _ hd;show aW (c' z.2) l=aW (lV M c z.1) l;unfold aW;rw [auL ((i2.map _).nodup_iff.mpr (by rw [show lV M c z.1=c d from abT v.kn hd];exact bn.nd)) i2]
    refine auR (s.le le3) v hn (le3 _ _ hf) fn fv fk nm hs2 sn2 sp2 (fun l=>by rw [sv2,et]) sl2 nsf fun G3 k3=>?_;refine ⟨G,fun q u z=>k3 q u (fun w=>?_) (le3 _ _ z),h⟩;have:=l1 _ _ z;rw [w,hsm] at this;cases this
theorem aG0 {hs:List (Int×Int)} (nd:(hs.map (·.1)).Nodup) (h1:ps.Perm hs) (h2:qs.Perm hs):eqM ps qs=true:=by
  have nq:(qs.map (·.1)).Nodup:=(h2.map _).nodup_iff.mpr nd;unfold eqM;rw [ak];refine ⟨by rw [h1.length_eq,h2.length_eq];exact beq_self_eq_true _,iu.mpr fun p hp=>?_⟩;rw [wG nq (h2.mem_iff.mpr (h1.mem_iff.mp hp))];exact beq_self_eq_true _
theorem aG1 {N1 N2:List (List Key×Addr)} {c3:Addr->List (Int×Int)} (kn:(M.map (·.1)).Nodup) (bn:∀ k,((lV M c k).map (·.1)).Nodup) (h1:(N1.map (·.1)).Perm (M.map (·.1))) (h2:(N2.map (·.1)).Perm (M.map (·.1))) (i1:∀ z∈N1,(c3 z.2).Perm (lV M c z.1)) (i2:∀ z∈N2,(c3 z.2).Perm (lV M c z.1)):L2.eqT c3 N1 N2=true:=by
  unfold L2.eqT;rw [ak];refine ⟨?_,iu.mpr fun z hz=>?_⟩
  . have a:=h1.length_eq;have b:=h2.length_eq;simp at a b;simp;omega
  . obtain ⟨⟨k,d⟩,hy,e⟩:=gw.mp (h2.mem_iff.mpr (h1.mem_iff.mp (gw.mpr ⟨z,hz,rfl⟩)));have e:k=z.1:=e;subst e;have n2:(N2.map (·.1)).Nodup:=h2.nodup_iff.mpr kn;have ev:=wG n2 hy;have ev:aK N2 z.1=some d:=ev;rw [ev];exact aG0 (bn z.1) (i1 z hz) (i2 _ hy)
structure Lw (A:bG) (a0:Addr) (ns:List Int) (r:Addr) (ds:List D) (sh:Addr) (x y g:Nat) (room:Int) (st lf:Addr) (n:Nat) (M:List (List Key×Addr)) (c:Addr->List (Int×Int)) (ls:List (Int×Int)) (G:Gp):Prop where
  hG:G a0=some (.rol (ns.map D.int))
  hr:G r=some (.lst ds)
  s:SH A sh x y g room st M c G
  v:Shv room n M c
  hf:G lf=some (.bQ false (ls.map jC))
  fn:(ls.map (·.1)).Nodup
  fv:∀ l,aW ls l=tot M c l
  fk:∀ q∈ls,0<=q.1/\q.1<=999
  fl:ls.length<=n
  nm:lf ∉ M.map (·.2)
theorem Lw.le {a0:Addr} {ns:List Int} {r:Addr} {ds:List D} {sh:Addr} {x y g:Nat} {room:Int} {st lf:Addr} {n:Nat} {M:List (List Key×Addr)} {c:Addr->List (Int×Int)} {ls:List (Int×Int)} {G':Gp} (w:Lw A a0 ns r ds sh x y g room st lf n M c ls G) (l:Le G G'):Lw A a0 ns r ds sh x y g room st lf n M c ls G':=⟨l _ _ w.hG,l _ _ w.hr,w.s.le l,w.v,l _ _ w.hf,w.fn,w.fv,w.fk,w.fl,w.nm⟩
theorem auT:aa3 (.tup xs) .non G R=R (.bl true) G:=rfl
theorem aG2:ao7 (.tup xs) .non G R=R (.bl false) G:=rfl
theorem Lw.did (w:Lw A a0 ns r ds sh x y g room st lf n M c ls G) (d:Did A sh x y g room st n M c G lot dm M' c' G') :
    G' a0=some (.rol (ns.map D.int))/\G' r=some (.lst ds)/\SH A sh x y g room st M' c' G'/\Shv room (n+2) M' c'/\G' lf=some (.bQ false (ls.map jC))/\(∀ l,tot M' c' l=tot M c l+if l=lot then dm else 0)/\lf ∉ M'.map (·.2):=by
  obtain ⟨d1,d2,d3,d4⟩:=d
  have out:∀ q u,(∀ kvs,u ≠ .bQ false kvs)->G q=some u->q ∉ M.map (·.2):=fun q u hu e m=>by
    obtain ⟨z,hz,rfl⟩:=gw.mp m;have:=w.s.ins z hz;rw [e] at this;exact hu _ (gk.inj this)
  have ns:∀ q u,(∀ kvs,u ≠ .bQ true kvs)->G q=some u->q≠st:=fun q u hu e m=>by
    have:=w.s.st;rw [← m,e] at this;exact hu _ (gk.inj this)
  refine ⟨d4.1 _ _ (ns _ _ (fun _ z=>by cases z) w.hG) (out _ _ (fun _ z=>by cases z) w.hG) w.hG,d4.1 _ _ (ns _ _ (fun _ z=>by cases z) w.hr) (out _ _ (fun _ z=>by cases z) w.hr) w.hr,d1,d2,d4.1 _ _ (ns _ _ (fun _ z=>by cases z) w.hf) w.nm w.hf,d3,fun m=>?_⟩;rcases d4.2 _ m with z | z
  . exact w.nm z
  . rw [w.hf] at z;cases z
theorem ag2 {r1 r2 r7 r8 r9 r10 r11 r12 r13 r14:Option D} (w:Lw A a0 ns r ds sh x y g room st lf n M c ls G) (hn:n < 64)
    (h:F.nx [some (.ref a0),r1,r2,some (.int room),some (.ref r),some (.ref sh),some (.ref lf),r7,r8,r9,r10,r11,r12,r13,r14] G) :
    a4J K A ex F [some (.ref a0),r1,r2,some (.int room),some (.ref r),some (.ref sh),some (.ref lf),r7,r8,r9,r10,r11,r12,r13,r14] G:=by
  exists a4J;refine alA w.s w.v hn w.hf w.fn w.fv w.fk w.nm ?_;walk_at "wr";exact h
theorem aG3 {r1 r2 r7 r10 r11 r13:Option D} (w:Lw A a0 ns r ds sh x y g room st lf n M c ls G0) (d:Did A sh x y g room st n M c G0 lot dm M' c' G) (hn:n+2 < 64) (hw:Wd wd am dm) (hl:0<=lot/\lot<=999)
    (h:∀ ls' G',Lw A a0 ns r ds sh x y g room st lf (n+2) M' c' ls' G'->F.nx [some (.ref a0),r1,r2,some (.int room),some (.ref r),some (.ref sh),some (.ref lf),r7,some wd,some (.int lot),r10,r11,some (.int am),r13,some .non] G') :
    pA K A ex F [some (.ref a0),r1,r2,some (.int room),some (.ref r),some (.ref sh),some (.ref lf),r7,some wd,some (.int lot),r10,r11,some (.int am),r13,some .non] G:=by
  have big:10000 < sizeLine:=by decide
  obtain ⟨e1,e2,e3,e4,e5,e6,e7⟩:=w.did d;have fl:=w.fl
  have add:∀ (Gb:Gp),Le G Gb->∀ G',G'=aL Gb lf (.bQ false ((dR ls lot (aW ls lot+dm)).map jC))->Lw A a0 ns r ds sh x y g room st lf (n+2) M' c' (dR ls lot (aW ls lot+dm)) G':=fun Gb l G' eG=>by
    subst eG;obtain ⟨q1,q2,q3,q4,q5⟩:=a6J (l:=lot) (w:=aW ls lot+dm) w.fn;have k:∀ q u,q≠lf->Gb q=some u->aL Gb lf (.bQ false ((dR ls lot (aW ls lot+dm)).map jC)) q=some u:=fun q u n1 z=>by rw [bD n1];exact z
    refine ⟨k _ _ (fun z=>by rw [z,e5] at e1;cases e1) (l _ _ e1),k _ _ (fun z=>by rw [z,e5] at e2;cases e2) (l _ _ e2),(e3.le l).keep (t:=false) (l _ _ e5) e7 k,e4,aH,q3,fun i=>?_,fun q hq=>?_,by omega,e7⟩
    . rw [q1,e6,← w.fv];by_cases z:i=lot
      . rw [if_pos z,if_pos z,z]
      . rw [if_neg z,if_neg z];omega
    . rcases q4 q hq with z | z
      . exact w.fk q z
      . rw [z];exact hl
  rcases hw with ⟨rfl,rfl⟩ | ⟨rfl,rfl⟩ | ⟨rfl,rfl⟩
  . exists pA,fZ e5;rw [gA e5 dD rfl,aFZ e5];walk_at "wr";intro q hq;rw [show (if (Str.ofString "put" == Str.ofString "take")=true then (1:Int) else 0)=((0:Nat):Int) from rfl];rw [aaZ c7 (by rw [a3Y];rfl)];walk_at "wr";rw [a66 (dU e5 hq) dD rfl (by rw [dh];omega),a65];exact ag2 (add _ (.new hq) _ rfl) hn (h _ _ (add _ (.new hq) _ rfl))
  . exists pA,fZ e5;rw [gA e5 dD rfl,aFZ e5];walk_at "wr";intro q hq;rw [show (if (Str.ofString "take" == Str.ofString "take")=true then (1:Int) else 0)=((1:Nat):Int) from rfl];rw [aaZ c7 (by rw [a3Y];rfl)];walk_at "wr";rw [a66 (dU e5 hq) dD rfl (by rw [dh];omega),a65,show aW ls lot+(0 - am)=aW ls lot+-am by omega];exact ag2 (add _ (.new hq) _ rfl) hn (h _ _ (add _ (.new hq) _ rfl))
  . exists pA;rw [if_neg (by simp)];have z:Lw A a0 ns r ds sh x y g room st lf (n+2) M' c' ls G:=⟨e1,e2,e3,e4,e5,w.fn,fun i=>by rw [w.fv,e6];split <;> omega,w.fk,by omega,e7⟩;exact ag2 z hn (h _ _ z)
theorem auU (T:Txt K mg A) {r1 r2 r8 r9 r10 r11 r12 r13 r14:Option D} {k:Nat} (w:Lw A a0 ns r ds sh x y g room st lf n M c ls G) (hn:n+2 < 64) (hk:k < 100) (hr:1<=room/\room<=1000000) (sp:anC x y ds)
    (h:∀ r8 r9 r10 r11 r12 r13 r14 M' c' ls' G',Lw A a0 ns r ds sh x y g room st lf (n+2) M' c' ls' G'->F.nx [some (.ref a0),r1,r2,some (.int room),some (.ref r),some (.ref sh),some (.ref lf),some (.int k),r8,r9,r10,r11,r12,r13,r14] G') :
    abK K A ex F [some (.ref a0),r1,r2,some (.int room),some (.ref r),some (.ref sh),some (.ref lf),some (.int k),r8,r9,r10,r11,r12,r13,r14] G:=by
  have big:10000 < sizeLine:=by decide
  exists abK;refine aFX hk hr w.hG sp w.hr fun wd lot a p a2 p2 am dm G1 l1 hw hl b b2 ha=>?_;rw [afO rfl];simp (implicitDefEqProofs:=false) only [L6.afP,L6.amU,L5.akS,L5.akT];have w1:=w.le l1;exists abJ,lA w1.s.sh (m := "lying") rfl;refine ag1 w1.s w1.v (by omega) fun t N c' G2 l2 ly=>?_;have w2:=w1.le l2;exists abI;refine aFW T w2.s w2.v (by omega) hw hl b b2 ha (by omega) (fun j G3 hj l3=>?_) fun M' c2 G3 did=>?_
  . have w3:=w2.le l3;exists a4K;rw [auT];walk_at "wr";intro q hq;have l4:=Le.new (o := .lst [.tup [.str "refused",.int 4],.tup [.str "refused",.int 5]]) hq
    have hN:ae0 (.tup [.str "refused",.int j]) (.ref q) (aL G3 q (.lst [.tup [.str "refused",.int 4],.tup [.str "refused",.int 5]]))=fun R=>R (.bl false) (aL G3 q (.lst [.tup [.str "refused",.int 4],.tup [.str "refused",.int 5]])):=by
      funext R;unfold L2.ae0;simp only [c7];rcases hj with rfl | rfl <;> simp [aQ,eqP,rY]
    rw [hN];have w4:=w3.le l4;exists lA w4.s.sh (m := "lying") rfl;refine ag1 w4.s w4.v (by omega) fun t2 N2 c3 G5 l5 ly2=>?_;have w5:=w4.le l5;have up:Le G2 G5:=(l3.trans l4).trans l5
    have apart:∀ z∈N,z.2 ∉ N2.map (·.2):=fun z hz m=>by
      obtain ⟨y,hy,e⟩:=gw.mp m;have h1:=(l3.trans l4) _ _ (ly.ins z hz).1;rw [← e,(ly2.ins y hy).2.2] at h1;cases h1
    refine azB (M:=N2) (N:=N) (c:=fun q=>if q∈N2.map (·.2) then c3 q else c' q) ly2.tt (up _ _ ly.tt) (fun z hz=>?_) ?_
    . rcases oh.mp hz with hz | hz
      . rw [if_pos (gw.mpr ⟨z,hz,rfl⟩)];exact (ly2.ins z hz).1
      . rw [if_neg (apart z hz)];exact up _ _ (ly.ins z hz).1
    . rw [aG1 w.v.kn (fun k=>(a6L (k:=k) (by omega) w.v).1) ly2.ke ly.ke (fun z hz=>?_) (fun z hz=>?_)]
      . exists pA;rw [aG2];walk_at "wr";have z:Lw A a0 ns r ds sh x y g room st lf (n+2) M c ls G5:=⟨w5.hG,w5.hr,w5.s,w5.v.up (by omega),w5.hf,w5.fn,w5.fv,w5.fk,by have:=w5.fl;omega,w5.nm⟩;exact ag2 z hn (h _ _ _ _ _ _ _ _ _ _ _ z)
      . show (if z.2∈N2.map (·.2) then c3 z.2 else c' z.2).Perm _;rw [if_pos (gw.mpr ⟨z,hz,rfl⟩)];exact (ly2.ins z hz).2.1
      . show (if z.2∈N2.map (·.2) then c3 z.2 else c' z.2).Perm _;rw [if_neg (apart z hz)];exact (ly.ins z hz).2.1
  . exists a4K;exact aG3 w2 did hn hw hl fun ls' G' z=>h _ _ _ _ _ _ _ _ _ _ _ z
theorem aKZ (T:Txt K mg A) {a:Addr} (hG:G a=some (.rol (ns.map D.int))) (h:∀ G',R (.bl true) G'):afU K A [.ref a] G R EX:=by
  have big:10000 < sizeLine:=by decide
  refine ⟨rfl,?_⟩;have h':∀ G',bV R (.bl true) G':=fun G'=>bV.here (h G');clear h;show auB K A _ _ [some (.ref a),none,none,none,none,none,none,none,none,none,none,none,none,none,none] G;exists auB;refine aFV (k:=0) hG (by omega) fun x y g o=>?_;exists an3;refine z9 (k:=2) hG (by omega) ?_;generalize cellAt ns 2=c2;have e6:(10:Int) ^ Int.toNat 6=1000000:=by decide
  exists an2;rw [e6];intro q hq;have l1:∀ o,Le G (aL G q o):=fun o => .new hq;refine a3Z c7 (by omega) (by show c2 % 3 < 3;omega) fun z hz=>?_
  obtain ⟨room,rfl,hr⟩:∃ t:Int,z = .int t/\1<=t/\t<=1000000:=by
    simp only [ig,wj,or_false] at hz;rcases hz with rfl | rfl | rfl
    . exact ⟨_,rfl,by omega⟩
    . exact ⟨_,rfl,by omega⟩
    . exact ⟨_,rfl,by omega⟩
  have hG1:=l1 (.lst [.int (1+c2 / 3 % 30),.int (1+c2 / 3 % 30),.int (1+c2 / 3 % 1000000)]) _ _ hG;generalize aL G q _=G1 at hG1 ⊢;exists an1;refine azL o hG1 fun ds r G2 sp l2 hrr=>?_;have hG2:=l2 _ _ hG1;exists an0;intro sh hsh;have n0:a≠sh:=fun z=>by rw [← z,hG2] at hsh;cases hsh
  have n1:r≠sh:=fun z=>by rw [← z,hrr] at hsh;cases hsh
  refine aFT o hr aH fun st G3 s3 d3 k3=>⟨rfl,?_⟩;have hG3:=k3 _ _ n0 ((Le.new hsh) _ _ hG2);have hr3:=k3 _ _ n1 ((Le.new hsh) _ _ hrr);exists amZ;intro lf hlf;have l4:Le G3 (aL G3 lf (.bQ false [])) := .new hlf;have w0:Lw A a ns r ds sh x y g room st lf 0 [] (fun _=>[]) [] (aL G3 lf (.bQ false [])):=⟨l4 _ _ hG3,l4 _ _ hr3,⟨o,l4 _ _ s3,l4 _ _ d3,fun z hz=>nomatch hz⟩,Shv.nil,aH,yc,fun l=>rfl,(fun q hq=>nomatch hq),au _,fun m=>nomatch m⟩;generalize aL G3 lf _=G4 at w0 ⊢;exists amY;refine z9 (k:=6) w0.hG (by omega) ?_;generalize cellAt ns 6=c6;walk_at "wr";refine atU (fun k ρ G'=>∃ r7 r8 r9 r10 r11 r12 r13 r14 M c ls,ρ=[some (.ref a),some (plD x y g),some (.int c2),some (.int room),some (.ref r),some (.ref sh),some (.ref lf),r7,r8,r9,r10,r11,r12,r13,r14]/\Lw A a ns r ds sh x y g room st lf (2 * k) M c ls G') ⟨_,_,_,_,_,_,_,_,_,_,_,rfl,w0⟩ (fun k ρ G' hk z=>?_) fun ρ G' z=>?_
  . obtain ⟨r7,r8,r9,r10,r11,r12,r13,r14,M,c,ls,rfl,w⟩:=z;have hk2:k < 25:=by omega
    walk_at "wr";exact auU T w (by omega) (by omega) hr sp fun r8 r9 r10 r11 r12 r13 r14 M' c' ls' G' z=>⟨_,_,_,_,_,_,_,_,_,_,_,rfl,z⟩
  . obtain ⟨r7,r8,r9,r10,r11,r12,r13,r14,M,c,ls,rfl,w⟩:=z;exists amX;exact h' _
theorem main (T:Txt K mg A) (a:Addr) (ns:List Int) (hl:ns.length<=63) (G:Gp) (hG:G a=some (.rol (ns.map D.int))):afU K A [.ref a] G (fun d _=>d = .bl true) (fun _ _=>False):=aKZ T hG fun _=>rfl
end
end Law
namespace Law
open PySem PySem.Spec PyProof.Rows L2 L4
variable {st:Stmt}{f:Addr}
section
variable {P:Program} {w:World} {K:Fg} {mg:Str->Option Value} {base:Heap} {A:bG}
local macro_rules | `(tactic| walk_at "sc")=>`(tactic| exact ⟨rfl,rfl,rfl,by decide +kernel,rfl,by decide +kernel,by decide +kernel⟩)
theorem dc {qt:Bool} {x qual:Str} {fd:FuncData} {ps:List Str} {k:Nat} {S:SI} {c:CB} {tb:aZ->bJ} (F:yG K x qual st f fd) (hS:bA S.N ps (bW st)) (hc:S.calm=!qt) (hv:ae6 S (bW st)=true) (hk:kB S 0 c (gU st)=true) (he:(fun EX=>mB S.gl K (fun _=>EX) c)=tb) (hg:∀ (j:Nat) (y:Str) (g:GT),S.gl[j]?=some (y,g)->GTs P w K mg base k y g):cM qt P w K mg base (oJ P w) (k+1) f fd ps (dB K (spD S.N.length ps.length tb)):=by
  rw [← he];exact at8 F hS hc hv hk hg
theorem vU (T:Txt K mg A):cM false P w K mg base (oJ P w) 1 A.a4A A.tQ ["thing", "least", "most"] (dB K (cG K A)) :=
  dc (S:=al1 K A) (c:=al0) T.jV (show bA ["thing", "least", "most"] ["thing", "least", "most"] _ from by walk_at "sc") rfl (by kernel_rfl) (by kernel_rfl) (by kernel_rfl) (cO ⟨T.an4,akA⟩ (cO ⟨T.oE,pN⟩ (cO ⟨T.auC,awQ⟩ gln)))
theorem alB (T:Txt K mg A):cM false P w K mg base (oJ P w) 2 A.a7G A.xF ["thing", "aisles", "first", "last"] (dB K (yU K A)) :=
  dc (S:=ap7 K A) (c:=ap6) T.xV (show bA ["thing", "aisles", "first", "last"] ["thing", "aisles", "first", "last"] _ from by walk_at "sc") rfl (by kernel_rfl) (by kernel_rfl) (by kernel_rfl) (cO ⟨T.afX,ah4⟩ (cO ⟨T.oE,pN⟩ (cO ⟨T.aeA,aa7⟩ (cO ⟨_,_,_,(vU T).mono (by decide),T.n6,T.jV.kp,T.mZ⟩ gln))))
theorem ag3 (T:Txt K mg A):cM false P w K mg base (oJ P w) 2 A.a0N A.qD ["thing"] (dB K (sH K A)) :=
  dc (S:=aiH K A) (c:=aiG) T.qP (show bA ["thing"] ["thing"] _ from by walk_at "sc") rfl (by kernel_rfl) (by kernel_rfl) (by kernel_rfl) (cO (gcI T.jA) (cO ⟨_,_,_,(vU T).mono (by decide),T.n6,T.jV.kp,T.mZ⟩ gln))
theorem alC (T:Txt K mg A):cM false P w K mg base (oJ P w) 2 A.a7H A.xG ["thing"] (dB K (yV K A)) :=
  dc (S:=ap9 K A) (c:=ap8) T.xW (show bA ["thing"] ["thing"] _ from by walk_at "sc") rfl (by kernel_rfl) (by kernel_rfl) (by kernel_rfl) (cO ⟨T.afX,ah4⟩ (cO ⟨T.oE,pN⟩ (cO ⟨T.aeA,aa7⟩ (cO (gcI T.j8) (cO ⟨_,_,_,(vU T).mono (by decide),T.n6,T.jV.kp,T.mZ⟩ (cO (gcI T.j9) (cO (gcI T.pG) gln)))))))
theorem a6M (T:Txt K mg A):cM false P w K mg base (oJ P w) 3 A.a0O A.qF ["plan"] (dB K (gZ K A)) :=
  dc (S:=aiJ K A) (c:=aiI) T.nJ (show bA ["plan"] ["plan"] _ from by walk_at "sc") rfl (by kernel_rfl) (by kernel_rfl) (by kernel_rfl) (cO ⟨_,_,_,(alC T).mono (by decide),T.a2J,T.xW.kp,T.a2I⟩ (cO ⟨T.abO,T.uJ,T.pB,T.pC,T.pD⟩ gln))
theorem apG (T:Txt K mg A):cM false P w K mg base (oJ P w) 4 A.ab6 A.a0P ["plan", "thing"] (dB K (a2F K A)) :=
  dc (S:=au8 K A) (c:=au7) T.a1H (show bA ["plan", "thing"] ["plan", "thing"] _ from by walk_at "sc") rfl (by kernel_rfl) (by kernel_rfl) (by kernel_rfl) (cO ⟨_,_,_,(a6M T).mono (by decide),T.qR,T.nJ.kp,T.qQ⟩ (cO ⟨_,_,_,(alB T).mono (by decide),T.a2H,T.xV.kp,T.a2G⟩ gln))
theorem qY (T:Txt K mg A):cM false P w K mg base (oJ P w) 2 A.a4B A.tR ["thing", "lots"] (dB K (cH K A)) :=
  dc (S:=al3 K A) (c:=al2) T.iB (show bA ["thing", "lots"] ["thing", "lots"] _ from by walk_at "sc") rfl (by kernel_rfl) (by kernel_rfl) (by kernel_rfl) (cO ⟨_,_,_,(vU T).mono (by decide),T.n6,T.jV.kp,T.mZ⟩ (cO ⟨T.afW,T.z8,T.uN,T.uO,T.uP⟩ gln))
theorem nP (T:Txt K mg A):cM false P w K mg base (oJ P w) 5 A.a4C A.tU ["plan", "thing"] (dB K (bT K A)) :=
  dc (S:=al5 K A) (c:=al4) T.fO (show bA ["plan", "thing"] ["plan", "thing"] _ from by walk_at "sc") rfl (by kernel_rfl) (by kernel_rfl) (by kernel_rfl) (cO ⟨_,_,_,(apG T).mono (by decide),T.a6B,T.a1H.kp,T.a6A⟩ (cO ⟨T.afV,T.z7,T.uK,T.uL,T.uM⟩ gln))
theorem oF (T:Txt K mg A):cM false P w K mg base (oJ P w) 3 A.wA A.mD ["thing"] (dB K (bZ K A)) :=
  dc (S:=acR K A) (c:=acQ) T.eE (show bA ["thing"] ["thing"] _ from by walk_at "sc") rfl (by kernel_rfl) (by kernel_rfl) (by kernel_rfl) (cO ⟨_,_,_,(ag3 T).mono (by decide),T.vL,T.qP.kp,T.vK⟩ (cO ⟨T.a4N,T.n8,T.jZ,T.kJ,T.kW⟩ gln))
theorem a7P (T:Txt K mg A):cM false P w K mg base (oJ P w) 1 A.ab7 A.a0Q ["stacks", "spot", "lot", "more"] (dB K (eO K A)) :=
  dc (S:=auA K A) (c:=au9) T.uE (show bA ["stacks", "spot", "lot", "more", "held"] ["stacks", "spot", "lot", "more"] _ from by walk_at "sc") rfl (by kernel_rfl) (by kernel_rfl) (by kernel_rfl) (cO ⟨T.aeA,aa7⟩ gln)
theorem aj2 (T:Txt K mg A):cM false P w K mg base (oJ P w) 1 A.a4D A.tV ["stacks"] (dB K (a0X K A)) :=
  dc (S:=al7 K A) (c:=al6) T.uF (show bA ["stacks", "told", "spot"] ["stacks"] _ from by walk_at "sc") rfl (by kernel_rfl) (by kernel_rfl) (by kernel_rfl) (cO ⟨T.a1K,a2C⟩ (cO ⟨T.a1K,a2C⟩ (cO ⟨T.auD,awS⟩ gln)))
theorem a2P (T:Txt K mg A):cM false P w K mg base (oJ P w) 4 A.bM A.gY ["self", "plan", "room"] (dB K (fV K A)) :=
  dc (S:=a4I K A) (c:=eX) T.uG (show bA ["self", "plan", "room"] ["self", "plan", "room"] _ from by walk_at "sc") rfl (by kernel_rfl) (by kernel_rfl) (by kernel_rfl) (cO ⟨_,_,_,(a6M T).mono (by decide),T.qR,T.nJ.kp,T.qQ⟩ (cO ⟨_,_,_,(oF T).mono (by decide),T.fQ,T.eE.kp,T.fP⟩ (cO ⟨T.aM,T.cB⟩ (cO ⟨T.aM,T.rH⟩ (cO ⟨T.aM,T.bK⟩ gln)))))
theorem a6N (T:Txt K mg A):cM false P w K mg base (oJ P w) 6 A.gB A.gC ["self", "spot"] (dB K (jD K A)) :=
  dc (S:=a7J K A) (c:=a7I) T.lG (show bA ["self", "spot"] ["self", "spot"] _ from by walk_at "sc") rfl (by kernel_rfl) (by kernel_rfl) (by kernel_rfl) (cO ⟨T.aM,T.cB⟩ (cO ⟨_,_,_,(nP T).mono (by decide),T.iD,T.fO.kp,T.iC⟩ (cO ⟨T.auF,aqX⟩ (cO ⟨T.aM,T.bK⟩ gln))))
theorem qZ (T:Txt K mg A):cM false P w K mg base (oJ P w) 7 A.dW A.dX ["self", "spot", "amount"] (dB K (cI K A)) :=
  dc (S:=a2O K A) (c:=a2N) T.fW (show bA ["self", "spot", "amount"] ["self", "spot", "amount"] _ from by walk_at "sc") rfl (by kernel_rfl) (by kernel_rfl) (by kernel_rfl) (cO (⟨_,_,_,[],[],T.aM,T.xZ,(a6N T).mono (by decide),T.lH,.nil,fun _ => .nil⟩) (cO ⟨T.aM,T.rH⟩ (cO ⟨T.abP,T.uQ,T.nM,T.pF,T.nO⟩ gln)))
theorem abV (T:Txt K mg A):cM false P w K mg base (oJ P w) 8 A.mF A.mH ["self", "lot", "spot", "amount"] (dB K (jR K A)) :=
  dc (S:=acT K A) (c:=acS) T.pU (show bA ["self", "lot", "spot", "amount"] ["self", "lot", "spot", "amount"] _ from by walk_at "sc") rfl (by kernel_rfl) (by kernel_rfl) (by kernel_rfl) (cO (gcI T.eF) (cO ⟨_,_,_,(qY T).mono (by decide),T.jX,T.iB.kp,T.jW⟩ (cO ⟨T.aM,T.cB⟩ (cO ⟨_,_,_,(nP T).mono (by decide),T.iD,T.fO.kp,T.iC⟩ (cO ⟨_,_,_,(oF T).mono (by decide),T.fQ,T.eE.kp,T.fP⟩ (cO (⟨_,_,_,[],[],T.aM,T.lZ,(qZ T).mono (by decide),T.dY,.nil,fun _ => .nil⟩) (cO ⟨T.aM,T.bK⟩ (cO ⟨_,_,_,(a7P T).mono (by decide),T.xY,T.uE.kp,T.xX⟩ gln))))))))
theorem a6O (T:Txt K mg A):cM false P w K mg base (oJ P w) 6 A.gF A.gG ["self", "lot", "spot"] (dB K (jE K A)) :=
  dc (S:=a7L K A) (c:=a7K) T.lJ (show bA ["self", "lot", "spot"] ["self", "lot", "spot"] _ from by walk_at "sc") rfl (by kernel_rfl) (by kernel_rfl) (by kernel_rfl) (cO (gcI T.eF) (cO ⟨_,_,_,(qY T).mono (by decide),T.jX,T.iB.kp,T.jW⟩ (cO ⟨T.aM,T.cB⟩ (cO ⟨_,_,_,(nP T).mono (by decide),T.iD,T.fO.kp,T.iC⟩ (cO ⟨T.aM,T.bK⟩ gln)))))
theorem oN (T:Txt K mg A):cM false P w K mg base (oJ P w) 7 A.dF A.dG ["self", "lot", "spot", "amount"] (dB K (cC K A)) :=
  dc (S:=a0Z K A) (c:=a0Y) T.fH (show bA ["self", "lot", "spot", "amount"] ["self", "lot", "spot", "amount"] _ from by walk_at "sc") rfl (by kernel_rfl) (by kernel_rfl) (by kernel_rfl) (cO (⟨_,_,_,[],[],T.aM,T.yC,(a6O T).mono (by decide),T.lK,.nil,fun _ => .nil⟩) (cO ⟨T.a1J,T.kY,T.fJ,T.iG,T.fK⟩ gln))
theorem a95 (T:Txt K mg A):cM false P w K mg base (oJ P w) 8 A.jM A.jN ["self", "lot", "spot", "amount"] (dB K (fB K A)) :=
  dc (S:=abC K A) (c:=abB) T.o7 (show bA ["self", "lot", "spot", "amount"] ["self", "lot", "spot", "amount"] _ from by walk_at "sc") rfl (by kernel_rfl) (by kernel_rfl) (by kernel_rfl) (cO (gcI T.eF) (cO ⟨_,_,_,(qY T).mono (by decide),T.jX,T.iB.kp,T.jW⟩ (cO ⟨T.aM,T.cB⟩ (cO ⟨_,_,_,(nP T).mono (by decide),T.iD,T.fO.kp,T.iC⟩ (cO ⟨_,_,_,(oF T).mono (by decide),T.fQ,T.eE.kp,T.fP⟩ (cO (⟨_,_,_,[],[],T.aM,T.jY,(oN T).mono (by decide),T.dH,.nil,fun _ => .nil⟩) (cO ⟨T.aM,T.bK⟩ (cO ⟨_,_,_,(a7P T).mono (by decide),T.xY,T.uE.kp,T.xX⟩ gln))))))))
theorem a7Q (T:Txt K mg A):cM false P w K mg base (oJ P w) 8 A.iR A.iT ["self", "lot", "one", "other", "amount"] (dB K (lE K A)) :=
  dc (S:=a8Z K A) (c:=a8Y) T.mL (show bA ["self", "lot", "one", "other", "amount"] ["self", "lot", "one", "other", "amount"] _ from by walk_at "sc") rfl (by kernel_rfl) (by kernel_rfl) (by kernel_rfl) (cO (gcI T.eF) (cO ⟨_,_,_,(qY T).mono (by decide),T.jX,T.iB.kp,T.jW⟩ (cO ⟨T.aM,T.cB⟩ (cO ⟨_,_,_,(nP T).mono (by decide),T.iD,T.fO.kp,T.iC⟩ (cO ⟨_,_,_,(oF T).mono (by decide),T.fQ,T.eE.kp,T.fP⟩ (cO (⟨_,_,_,[],[],T.aM,T.jY,(oN T).mono (by decide),T.dH,.nil,fun _ => .nil⟩) (cO (⟨_,_,_,[],[],T.aM,T.lZ,(qZ T).mono (by decide),T.dY,.nil,fun _ => .nil⟩) (cO ⟨T.aM,T.bK⟩ (cO ⟨_,_,_,(a7P T).mono (by decide),T.xY,T.uE.kp,T.xX⟩ gln)))))))))
theorem apL (T:Txt K mg A):cM false P w K mg base (oJ P w) 6 A.jO A.jP ["self", "spot"] (dB K (a90 K A)) :=
  dc (S:=abF K A) (c:=abE) T.o9 (show bA ["self", "spot"] ["self", "spot"] _ from by walk_at "sc") rfl (by kernel_rfl) (by kernel_rfl) (by kernel_rfl) (cO ⟨T.aM,T.cB⟩ (cO ⟨_,_,_,(nP T).mono (by decide),T.iD,T.fO.kp,T.iC⟩ (cO ⟨T.a1K,a2C⟩ (cO ⟨T.aM,T.bK⟩ gln))))
theorem a6P (T:Txt K mg A):cM false P w K mg base (oJ P w) 3 A.gH A.gJ ["self", "lot"] (dB K (jF K A)) :=
  dc (S:=a7O K A) (c:=a7N) T.lM (show bA ["self", "lot"] ["self", "lot"] _ from by walk_at "sc") rfl (by kernel_rfl) (by kernel_rfl) (by kernel_rfl) (cO (gcI T.eF) (cO ⟨_,_,_,(qY T).mono (by decide),T.jX,T.iB.kp,T.jW⟩ (cO ⟨T.aM,T.bK⟩ (cO ⟨T.a1K,a2C⟩ gln))))
theorem yF (T:Txt K mg A):cM false P w K mg base (oJ P w) 2 A.iU A.iV ["self"] (dB K (cW K A)) :=
  dc (S:=a92 K A) (c:=a91) T.mR (show bA ["self"] ["self"] _ from by walk_at "sc") rfl (by kernel_rfl) (by kernel_rfl) (by kernel_rfl) (cO ⟨T.aM,T.bK⟩ (cO ⟨_,_,_,(aj2 T).mono (by decide),T.z6,T.uF.kp,T.yZ⟩ gln))
theorem mW (T:Txt K mg A):cM false P w K mg base (oJ P w) 1 A.tW A.jQ ["_law_script", "_law_k"] (dB K (aY K A)) :=
  dc (S:=abH K A) (c:=abG) T.dI (show bA ["_law_script", "_law_k", "_law_mixed"] ["_law_script", "_law_k"] _ from by walk_at "sc") rfl (by kernel_rfl) (by kernel_rfl) (by kernel_rfl) (cO ⟨T.aeA,aa7⟩ gln)
theorem ag4 (T:Txt K mg A):cM false P w K mg base (oJ P w) 2 A.a0R A.qG ["_law_script", "_law_k"] (dB K (sI K A)) :=
  dc (S:=aiL K A) (c:=aiK) T.qT (show bA ["_law_script", "_law_k", "_law_cell", "_law_other", "_law_aisles", "_law_places"] ["_law_script", "_law_k"] _ from by walk_at "sc") rfl (by kernel_rfl) (by kernel_rfl) (by kernel_rfl) (cO ⟨_,_,_,(mW T).mono (by decide),T.eZ,T.dI.kp,T.eY⟩ (cO ⟨T.an4,akA⟩ gln))
theorem abW (T:Txt K mg A):cM true P w K mg base (oJ P w) 1 A.wB A.mJ ["_law_e"] (dB K (gM K A)) :=
  dc (S:=acV K A) (c:=acU) T.mK (show bA ["_law_e", "_law_marks"] ["_law_e"] _ from by walk_at "sc") rfl (by kernel_rfl) (by kernel_rfl) (by kernel_rfl) (cO ⟨T.abO,T.uJ,T.pB,T.pC,T.pD⟩ (cO ⟨T.oE,pN⟩ (cO ⟨T.afW,T.z8,T.uN,T.uO,T.uP⟩ (cO ⟨T.afV,T.z7,T.uK,T.uL,T.uM⟩ (cO ⟨T.a4N,T.n8,T.jZ,T.kJ,T.kW⟩ (cO ⟨T.a1J,T.kY,T.fJ,T.iG,T.fK⟩ (cO ⟨T.abP,T.uQ,T.nM,T.pF,T.nO⟩ (cO ⟨T.a6D,acJ⟩ (cO ⟨T.aeA,aa7⟩ gln)))))))))
theorem ag5 (T:Txt K mg A):cM false P w K mg base (oJ P w) 9 A.a0S A.qH ["_law_shelves", "_law_deed_here"] (dB K (sJ K A)) :=
  dc (S:=aiN K A) (c:=aiM) T.qU (show bA ["_law_shelves", "_law_deed_here", "_law_word", "_law_lot", "_law_one", "_law_other", "_law_amount", "_law_e"] ["_law_shelves", "_law_deed_here"] _ from by walk_at "sc") rfl (by kernel_rfl) (by kernel_rfl) (by kernel_rfl) (cO ⟨T.a6C,T.lQ,T.j5,T.j6,T.j7⟩ (cO (⟨_,_,_,[],[],T.aM,T.a3N,(abV T).mono (by decide),T.pW,.nil,fun _ => .nil⟩) (cO (⟨_,_,_,[],[],T.aM,T.a1I,(a95 T).mono (by decide),T.o8,.nil,fun _ => .nil⟩) (cO (⟨_,_,_,[],[],T.aM,T.a04,(a7Q T).mono (by decide),T.mQ,.nil,fun _ => .nil⟩) (cO ⟨_,_,_,(abW T).mono (by decide),T.pY,T.mK.kp,T.pX⟩ gln)))))
theorem acX (T:Txt K mg A):cM false P w K mg base (oJ P w) 2 A.yR A.nY ["_law_script", "_law_plan_here"] (dB K (pR K A)) :=
  dc (S:=afT K A) (c:=afS) T.oA (show bA ["_law_script", "_law_plan_here", "_law_cell", "_law_one", "_law_other", "_law_third"] ["_law_script", "_law_plan_here"] _ from by walk_at "sc") rfl (by kernel_rfl) (by kernel_rfl) (by kernel_rfl) (cO ⟨_,_,_,(mW T).mono (by decide),T.eZ,T.dI.kp,T.eY⟩ gln)
theorem ag6 (T:Txt K mg A):cM false P w K mg base (oJ P w) 2 A.a0T A.qI ["_law_script", "_law_k", "_law_spots_here", "_law_room"] (dB K (sO K A)) :=
  dc (S:=aiP K A) (c:=aiO) T.qW (show bA ["_law_script", "_law_k", "_law_spots_here", "_law_room", "_law_cell", "_law_more", "_law_word", "_law_lots", "_law_amount"] ["_law_script", "_law_k", "_law_spots_here", "_law_room"] _ from by walk_at "sc") rfl (by kernel_rfl) (by kernel_rfl) (by kernel_rfl) (cO ⟨_,_,_,(mW T).mono (by decide),T.eZ,T.dI.kp,T.eY⟩ (cO ⟨T.aAU,aD5⟩ (cO ⟨T.aAV,aD4⟩ gln)))
theorem a7R (T:Txt K mg A):cM false P w K mg base (oJ P w) 4 A.rC A.iW ["_law_shelves", "_law_left", "_law_room"] (dB K (lF K A)) :=
  dc (S:=a94 K A) (c:=a93) T.iZ (show bA ["_law_shelves", "_law_left", "_law_room", "_law_lying", "_law_sums", "_law_spot", "_law_lot", "_law_amount"] ["_law_shelves", "_law_left", "_law_room"] _ from by walk_at "sc") rfl (by kernel_rfl) (by kernel_rfl) (by kernel_rfl) (cO (⟨_,_,_,[],[],T.aM,T.rG,(yF T).mono (by decide),T.iY,.nil,fun _ => .nil⟩) (cO ⟨T.auE,awR⟩ (cO ⟨T.auF,aqX⟩ (cO (⟨_,_,_,[],[],T.aM,T.yD,(a6P T).mono (by decide),T.lO,.nil,fun _ => .nil⟩) gln))))
theorem aG4 (T:Txt K mg A):cM false P w K mg base (oJ P w) 10 A.a8K A.au6 ["_law_script"] (dB K (afU K A)) :=
  dc (S:=aKQ K A) (c:=aiQ) T.aAT (show bA ["_law_script", "_law_plan_here", "_law_cell", "_law_room", "_law_spots_here", "_law_shelves", "_law_left", "_law_k", "_law_word", "_law_lot", "_law_one", "_law_other", "_law_amount", "_law_ahead", "_law_found"] ["_law_script"] _ from by walk_at "sc") rfl (by kernel_rfl) (by kernel_rfl) (by kernel_rfl) (cO ⟨_,_,_,(ag4 T).mono (by decide),T.vN,T.qT.kp,T.vM⟩ (cO ⟨_,_,_,(mW T).mono (by decide),T.eZ,T.dI.kp,T.eY⟩ (cO ⟨_,_,_,(acX T).mono (by decide),T.sU,T.oA.kp,T.sS⟩ (cO (⟨_,_,_,_,[],[],rfl,T.abM,(a2P T).mono (by decide),T.abN,T.uH,.nil,fun _ => .nil⟩) (cO ⟨T.an5,at9⟩ (cO ⟨_,_,_,(ag6 T).mono (by decide),T.vR,T.qW.kp,T.vQ⟩ (cO (⟨_,_,_,[],[],T.aM,T.rG,(yF T).mono (by decide),T.iY,.nil,fun _ => .nil⟩) (cO ⟨_,_,_,(ag5 T).mono (by decide),T.vP,T.qU.kp,T.vO⟩ (cO ⟨T.an4,akA⟩ (cO ⟨_,_,_,(a7R T).mono (by decide),T.mV,T.iZ.kp,T.mU⟩ gln))))))))))
end
noncomputable def anF (K:Fg):Sp:=fun vs H Q _=>∃ (a:Addr) (ns:List Int),vs=[.ref a]/\SqL K H a (ns.map V.int)/\ns.length<=63/\∀ H',Q (.bl true) H'
variable {mg:Str->Option Value}
theorem azN {K:Fg} {A:bG} (T:Txt K mg A):∀ vs H Q E,anF K vs H Q E->dB K (afU K A) vs H Q E:=by
  rintro vs H Q E ⟨a,ns,rfl,hS,hl,k⟩;refine ⟨[.ref a],fun b=>if b=a then some (.rol (ns.map D.int)) else none,fun d _=>d = .bl true,fun _ _=>False,.cons (.ref a) .nil,fun b o e=>?_,main T a ns hl _ (if_pos rfl),fun v H' d G' r g e=>?_,fun C H' G' g z=>z.elim⟩
  . have e2:(if b=a then some (GO.rol (ns.map D.int)) else none)=some o:=e;by_cases hb:b=a
    . subst hb;rw [if_pos rfl] at e2;cases e2;exact ⟨_,hS,cN.ints ns⟩
    . rw [if_neg hb] at e2;cases e2
  . subst e;cases r;exact k H'
noncomputable def Cb (K:Fg) (x q:Str) (st:Stmt) (f:Addr):Prop:=∃ oc kV dc pm cd ct od an sl,K.lookup f=some ⟨oc,od,.func (qj x q (rW st) (gU st) (bW st) .none kV dc pm an cd ct),sl⟩/\vm K cd q=true/\jy K (.ref f)=true
theorem Cb.get {K:Fg} {x q:Str} (b:Cb K x q st f) (ps:List Str) (h:∀ kV dc pm an cd ct,∀ us:List Value,us.length=ps.length->bindArgs (qj x q (rW st) (gU st) (bW st) .none kV dc pm an cd ct) ⟨us,[]⟩=pure (ps.zip us)):∃ d,yG K x q st f d/\Binds K d ps []/\jy K (.ref f)=true:=by
  obtain ⟨oc,kV,dc,pm,cd,ct,od,an,sl,l,c,k⟩:=b;exact ⟨_,ak4 (st:=st) l c k,amP (h _ _ _ _ _ _),k⟩
noncomputable def Fb (K:Fg) (x:Str) (st:Stmt) (f:Addr):Prop:=jc K mainGlobals x=some (some (.ref f))/\Cb K x x st f
theorem Fb.get {K:Fg} {q:Str} {st:Stmt} {f:Addr} {h:Heap} {mg:Str->Option Value} (b:Fb K q st f) (XK:K.In h) (GG:h.Ns mainGlobals mg) (ps:List Str) (h:∀ kV dc pm an cd ct,∀ us:List Value,us.length=ps.length->bindArgs (qj q q (rW st) (gU st) (bW st) .none kV dc pm an cd ct) ⟨us,[]⟩=pure (ps.zip us)):∃ d,yG K q q st f d/\Binds K d ps []/\mg q=some (.ref f):=by
  obtain ⟨d,F,B,_⟩:=b.2.get ps h;exact ⟨d,F,B,jw XK GG b.1⟩
noncomputable def Mb (K:Fg) (c:Addr) (x q:Str) (st:Stmt) (f:Addr):Prop:=iw K (.ref c) x=some (some (.ref f))/\xg K (.ref f)=true/\Cb K x q st f
theorem Mb.get {K:Fg} {c:Addr} {x q:Str} {st:Stmt} {f:Addr} (b:Mb K c x q st f) (ps:List Str) (h:∀ kV dc pm an cd ct,∀ us:List Value,us.length=ps.length->bindArgs (qj x q (rW st) (gU st) (bW st) .none kV dc pm an cd ct) ⟨us,[]⟩=pure (ps.zip us)):∃ d,yG K x q st f d/\Binds K d ps []/\iw K (.ref c) x=some (some (.ref f))/\xg K (.ref f)=true/\jy K (.ref f)=true:=by
  obtain ⟨d,F,B,k⟩:=b.2.2.get ps h;exact ⟨d,F,B,b.1,b.2.1,k⟩
variable {l:PySem.W.OpenLaw}
theorem all_mk {w:World} {K:Fg} {h:Heap} {fa:Addr} (XK:K.In h) (GG:h.Ns mainGlobals mg) (hfa:mg "law" = some (.ref fa))
    (a4O:Fb K "is_whole" ab2 alD)
    (a7S:Fb K "is_pair" ae8 apH)
    (a1N:Fb K "is_amount" a8F aj3)
    (a7T:Fb K "is_plan" ae9 apI)
    (a1O:Fb K "need_plan" a8G aj4)
    (abX:Fb K "is_bin" aiD auV)
    (a4P:Fb K "need_lot" ab3 alE)
    (a4Q:Fb K "need_bin" ab4 alF)
    (wH:Fb K "need_amount" a3A acY)
    (abY:Fb K "change" aiE auW)
    (a4R:Fb K "in_order" ab5 alG)
    (bM:iw K (.ref bR) "__init__" = some (some (.ref iH)))
    (iI:xg K (.ref iH)=true)
    (nC:K.lookup iH=some ⟨ajB,ajC,.func (qj "__init__" "Shelves.__init__" (rW eV) (gU eV) (bW eV) (.ref a2Q) ajD ajE ajF ajG a2R ajH),ajI⟩)
    (eX:vm K a2R "Shelves.__init__" = true)
    (iJ:jy K (.ref iH)=true)
    (iK:K.lookup a2Q=some ⟨ajJ,ajK,.seq #[.int 1000 a2S] ajL,ajM⟩)
    (pI:Mb K bR "filled" "Shelves.filled" xC a7U)
    (m6:Mb K bR "need_room" "Shelves.need_room" rQ a2T)
    (wI:Mb K bR "put" "Shelves.put" a3B acZ)
    (pJ:Mb K bR "amount" "Shelves.amount" xD a7V)
    (kZ:Mb K bR "need_there" "Shelves.need_there" qC a1P)
    (uT:Mb K bR "take" "Shelves.take" a0K abZ)
    (rJ:Mb K bR "shift" "Shelves.shift" zU a96)
    (uU:Mb K bR "held" "Shelves.held" a0L ac0)
    (pK:Mb K bR "places" "Shelves.places" xE a7W)
    (rK:Mb K bR "lying" "Shelves.lying" zV a97)
    (uV:Fb K "_law_cell_at" a0M ac1)
    (a1Q:Fb K "_law_plan" a8H aj5)
    (wJ:Fb K "_law_raised" a3C ad0)
    (a1R:Fb K "_law_done" a8I aj6)
    (zA:Fb K "_law_spots" a67 ag7)
    (a1S:Fb K "_law_deed" a8J aj7)
    (rM:Fb K "_law_balanced" zW a98)
    (a8K:jc K mainGlobals "law" = some (some (.ref auX)))
    (auY:K.lookup auX=some ⟨aO7,aO8,.func (qj "law" "law" (rW aiF) (gU aiF) (bW aiF) .none aO9 aOA aOB aOC aG5 aOD),aOE⟩)
    (aiQ:vm K aG5 "law" = true)
    (auZ:jy K (.ref auX)=true)
    (a4S:jc K mainGlobals "Shelves" = some (some (.ref bR)))
    (a4T:vq K bR Str.empty=true)
    (a4U:yg K bR=true)
    (a4V:PySem.W.plainOver K bR=true)
    (a4W:iw K (.ref bR) "__setattr__" = some (some (.builtin "object.__setattr__")))
    (a4X:PySem.W.makesIn K bR=true)
    (a4Y:jy K (.ref bR)=true)
    (oG:iw K (.ref bR) "layout" = some none)
    (rN:iw K (.ref bR) "room" = some none)
    (oH:iw K (.ref bR) "stacks" = some none)
    (zB:jc K mainGlobals "DepotError" = some (some (.ref iM)))
    (lQ:jf K iM [.type "ValueError",.type "Exception",.type "BaseException",.type "object"] "ValueError.__new__" = true)
    (j5:(jd K iM).isSome=true)
    (j6:jh K (.ref iM)=some (.type "type"))
    (j7:iy K (.ref iM) (.type "BaseException")=some true)
    (ac2:jc K mainGlobals "NoPlan" = some (some (.ref uW)))
    (uJ:jf K uW [.type "ValueError",.type "Exception",.type "BaseException",.type "object"] "ValueError.__new__" = true)
    (pB:(jd K uW).isSome=true)
    (pC:jh K (.ref uW)=some (.type "type"))
    (pD:iy K (.ref uW) (.type "BaseException")=some true)
    (ag8:jc K mainGlobals "NoBin" = some (some (.ref zE)))
    (z7:jf K zE [.type "ValueError",.type "Exception",.type "BaseException",.type "object"] "ValueError.__new__" = true)
    (uK:(jd K zE).isSome=true)
    (uL:jh K (.ref zE)=some (.type "type"))
    (uM:iy K (.ref zE) (.type "BaseException")=some true)
    (ag9:jc K mainGlobals "NoLot" = some (some (.ref zF)))
    (z8:jf K zF [.type "ValueError",.type "Exception",.type "BaseException",.type "object"] "ValueError.__new__" = true)
    (uN:(jd K zF).isSome=true)
    (uO:jh K (.ref zF)=some (.type "type"))
    (uP:iy K (.ref zF) (.type "BaseException")=some true)
    (a4Z:jc K mainGlobals "NoAmount" = some (some (.ref nD)))
    (n8:jf K nD [.type "ValueError",.type "Exception",.type "BaseException",.type "object"] "ValueError.__new__" = true)
    (jZ:(jd K nD).isSome=true)
    (kJ:jh K (.ref nD)=some (.type "type"))
    (kW:iy K (.ref nD) (.type "BaseException")=some true)
    (ac3:jc K mainGlobals "NoRoom" = some (some (.ref cP)))
    (uQ:jf K cP [.type "ValueError",.type "Exception",.type "BaseException",.type "object"] "ValueError.__new__" = true)
    (nM:(jd K cP).isSome=true)
    (pF:jh K (.ref cP)=some (.type "type"))
    (nO:iy K (.ref cP) (.type "BaseException")=some true)
    (a7X:iw K (.ref cP) "__getattribute__" = some (some (.builtin "BaseException.__getattribute__")))
    (a7Y:iw K (.ref cP) "__getattr__" = some none)
    (a7Z:iw K (.ref cP) "__class__" = some (some (.builtin "object.__class__")))
    (a80:PySem.W.mroIn K cP (.type "object")=some true)
    (sY:cj K (.ref cP) (.type "ValueError")=some true)
    (a1T:jc K mainGlobals "TooLittle" = some (some (.ref bF)))
    (kY:jf K bF [.type "ValueError",.type "Exception",.type "BaseException",.type "object"] "ValueError.__new__" = true)
    (fJ:(jd K bF).isSome=true)
    (iG:jh K (.ref bF)=some (.type "type"))
    (fK:iy K (.ref bF) (.type "BaseException")=some true)
    (zG:iw K (.ref bF) "__getattribute__" = some (some (.builtin "BaseException.__getattribute__")))
    (zH:iw K (.ref bF) "__getattr__" = some none)
    (zJ:iw K (.ref bF) "__class__" = some (some (.builtin "object.__class__")))
    (zK:PySem.W.mroIn K bF (.type "object")=some true)
    (lR:cj K (.ref bF) (.type "ValueError")=some true)
    (cA:iy K (.ref cP) (.ref iM)=some true)
    (dM:cj K (.ref cP) (.ref nD)=some false)
    (gO:cj K (.ref cP) (.ref zE)=some false)
    (gP:cj K (.ref cP) (.ref zF)=some false)
    (fC:cj K (.ref cP) (.ref uW)=some false)
    (fD:cj K (.ref cP) (.ref cP)=some true)
    (cX:cj K (.ref cP) (.ref bF)=some false)
    (bN:iy K (.ref bF) (.ref iM)=some true)
    (cJ:cj K (.ref bF) (.ref nD)=some false)
    (dN:cj K (.ref bF) (.ref zE)=some false)
    (dO:cj K (.ref bF) (.ref zF)=some false)
    (cY:cj K (.ref bF) (.ref uW)=some false)
    (cZ:cj K (.ref bF) (.ref cP)=some false)
    (cD:cj K (.ref bF) (.ref bF)=some true)
    (j8:jc K mainGlobals "MOST_AISLES" = some (some (.int 26 ad1)))
    (j9:jc K mainGlobals "MOST_PLACES" = some (some (.int 99 ad2)))
    (jA:jc K mainGlobals "MOST_AMOUNT" = some (some (.int 1000000 ad3)))
    (pG:jc K mainGlobals "MOST_GAP" = some (some (.int 20 alH)))
    (eF:jc K mainGlobals "MOST_LOTS" = some (some (.int 1000 aj8)))
    (zL:jc K mainGlobals "ValueError" = some none)
    (alI:jc K mainGlobals "bool" = some none)
    (alJ:jc K mainGlobals "dict" = some none)
    (av0:jc K mainGlobals "int" = some none)
    (zM:jc K mainGlobals "isinstance" = some none)
    (av1:jc K mainGlobals "len" = some none)
    (alK:jc K mainGlobals "list" = some none)
    (av2:jc K mainGlobals "max" = some none)
    (av3:jc K mainGlobals "min" = some none)
    (agA:jc K mainGlobals "range" = some none)
    (ac4:jc K mainGlobals "sorted" = some none)
    (av4:jc K mainGlobals "sum" = some none)
    (agB:jc K mainGlobals "tuple" = some none) :
    ∃ fd:FuncData,(∀ (s:Shared) (v:Value),BindsTo s fd ⟨[v],[]⟩ [("_law_script",v)])/\∀ base:Heap,K.In base->base.Ns mainGlobals mg->cM false l.prog w K mg base (oJ l.prog w) 10 fa fd ["_law_script"] (anF K):=by
  have e:=hfa.symm.trans (jw XK GG a8K);cases e;obtain ⟨tQ,jV,mZ,n6⟩:=a4O.get XK GG ["thing", "least", "most"] fun _ _ _ _ _ _ us hl=>match us,hl with | [_,_,_],_=>rfl
  obtain ⟨xF,xV,a2G,a2H⟩:=a7S.get XK GG ["thing", "aisles", "first", "last"] fun _ _ _ _ _ _ us hl=>match us,hl with | [_,_,_,_],_=>rfl
  obtain ⟨qD,qP,vK,vL⟩:=a1N.get XK GG ["thing"] fun _ _ _ _ _ _ us hl=>match us,hl with | [_],_=>rfl
  obtain ⟨xG,xW,a2I,a2J⟩:=a7T.get XK GG ["thing"] fun _ _ _ _ _ _ us hl=>match us,hl with | [_],_=>rfl
  obtain ⟨qF,nJ,qQ,qR⟩:=a1O.get XK GG ["plan"] fun _ _ _ _ _ _ us hl=>match us,hl with | [_],_=>rfl
  obtain ⟨a0P,a1H,a6A,a6B⟩:=abX.get XK GG ["plan", "thing"] fun _ _ _ _ _ _ us hl=>match us,hl with | [_,_],_=>rfl
  obtain ⟨tR,iB,jW,jX⟩:=a4P.get XK GG ["thing", "lots"] fun _ _ _ _ _ _ us hl=>match us,hl with | [_,_],_=>rfl
  obtain ⟨tU,fO,iC,iD⟩:=a4Q.get XK GG ["plan", "thing"] fun _ _ _ _ _ _ us hl=>match us,hl with | [_,_],_=>rfl
  obtain ⟨mD,eE,fP,fQ⟩:=wH.get XK GG ["thing"] fun _ _ _ _ _ _ us hl=>match us,hl with | [_],_=>rfl
  obtain ⟨a0Q,uE,xX,xY⟩:=abY.get XK GG ["stacks", "spot", "lot", "more"] fun _ _ _ _ _ _ us hl=>match us,hl with | [_,_,_,_],_=>rfl
  obtain ⟨tV,uF,yZ,z6⟩:=a4R.get XK GG ["stacks"] fun _ _ _ _ _ _ us hl=>match us,hl with | [_],_=>rfl
  obtain ⟨gC,lG,lH,gB,a81,a82⟩:=pI.get ["self", "spot"] fun _ _ _ _ _ _ us hl=>match us,hl with | [_,_],_=>rfl
  obtain ⟨dX,fW,dY,dW,a2U,a2V⟩:=m6.get ["self", "spot", "amount"] fun _ _ _ _ _ _ us hl=>match us,hl with | [_,_,_],_=>rfl
  obtain ⟨mH,pU,pW,mF,ad4,ad5⟩:=wI.get ["self", "lot", "spot", "amount"] fun _ _ _ _ _ _ us hl=>match us,hl with | [_,_,_,_],_=>rfl
  obtain ⟨gG,lJ,lK,gF,a83,a84⟩:=pJ.get ["self", "lot", "spot"] fun _ _ _ _ _ _ us hl=>match us,hl with | [_,_,_],_=>rfl
  obtain ⟨dG,fH,dH,dF,a1U,a1V⟩:=kZ.get ["self", "lot", "spot", "amount"] fun _ _ _ _ _ _ us hl=>match us,hl with | [_,_,_,_],_=>rfl
  obtain ⟨jN,o7,o8,jM,ac5,ac6⟩:=uT.get ["self", "lot", "spot", "amount"] fun _ _ _ _ _ _ us hl=>match us,hl with | [_,_,_,_],_=>rfl
  obtain ⟨iT,mL,mQ,iR,a99,a9A⟩:=rJ.get ["self", "lot", "one", "other", "amount"] fun _ _ _ _ _ _ us hl=>match us,hl with | [_,_,_,_,_],_=>rfl
  obtain ⟨jP,o9,uI,jO,ac7,ac8⟩:=uU.get ["self", "spot"] fun _ _ _ _ _ _ us hl=>match us,hl with | [_,_],_=>rfl
  obtain ⟨gJ,lM,lO,gH,a85,a86⟩:=pK.get ["self", "lot"] fun _ _ _ _ _ _ us hl=>match us,hl with | [_,_],_=>rfl
  obtain ⟨iV,mR,iY,iU,a9B,a9C⟩:=rK.get ["self"] fun _ _ _ _ _ _ us hl=>match us,hl with | [_],_=>rfl
  obtain ⟨jQ,dI,eY,eZ⟩:=uV.get XK GG ["_law_script", "_law_k"] fun _ _ _ _ _ _ us hl=>match us,hl with | [_,_],_=>rfl
  obtain ⟨qG,qT,vM,vN⟩:=a1Q.get XK GG ["_law_script", "_law_k"] fun _ _ _ _ _ _ us hl=>match us,hl with | [_,_],_=>rfl
  obtain ⟨mJ,mK,pX,pY⟩:=wJ.get XK GG ["_law_e"] fun _ _ _ _ _ _ us hl=>match us,hl with | [_],_=>rfl
  obtain ⟨qH,qU,vO,vP⟩:=a1R.get XK GG ["_law_shelves", "_law_deed_here"] fun _ _ _ _ _ _ us hl=>match us,hl with | [_,_],_=>rfl
  obtain ⟨nY,oA,sS,sU⟩:=zA.get XK GG ["_law_script", "_law_plan_here"] fun _ _ _ _ _ _ us hl=>match us,hl with | [_,_],_=>rfl
  obtain ⟨qI,qW,vQ,vR⟩:=a1S.get XK GG ["_law_script", "_law_k", "_law_spots_here", "_law_room"] fun _ _ _ _ _ _ us hl=>match us,hl with | [_,_,_,_],_=>rfl
  obtain ⟨iW,iZ,mU,mV⟩:=rM.get XK GG ["_law_shelves", "_law_left", "_law_room"] fun _ _ _ _ _ _ us hl=>match us,hl with | [_,_,_],_=>rfl
  have T:Txt K mg ⟨alD,tQ,
    apH,xF,
    aj3,qD,
    apI,xG,
    aj4,qF,
    auV,a0P,
    alE,tR,
    alF,tU,
    acY,mD,
    auW,a0Q,
    alG,tV,
    iH,_,
    a7U,gC,
    a2T,dX,
    acZ,mH,
    a7V,gG,
    a1P,dG,
    abZ,jN,
    a96,iT,
    ac0,jP,
    a7W,gJ,
    a97,iV,
    ac1,jQ,
    aj5,qG,
    ad0,mJ,
    aj6,qH,
    ag7,nY,
    aj7,qI,
    a98,iW,
    auX,_,
    iM,
    uW,
    zE,
    zF,
    nD,
    cP,
    bF,
    bR⟩:={
    jV:=jV,
    mZ:=mZ,
    n6:=n6,
    xV:=xV,
    a2G:=a2G,
    a2H:=a2H,
    qP:=qP,
    vK:=vK,
    vL:=vL,
    xW:=xW,
    a2I:=a2I,
    a2J:=a2J,
    nJ:=nJ,
    qQ:=qQ,
    qR:=qR,
    a1H:=a1H,
    a6A:=a6A,
    a6B:=a6B,
    iB:=iB,
    jW:=jW,
    jX:=jX,
    fO:=fO,
    iC:=iC,
    iD:=iD,
    eE:=eE,
    fP:=fP,
    fQ:=fQ,
    uE:=uE,
    xX:=xX,
    xY:=xY,
    uF:=uF,
    yZ:=yZ,
    z6:=z6,
    uG:=ak4 (st:=eV) nC eX iJ,
    uH:=ayK (ps:=["self", "plan", "room"]) iK (fun us hl=>match us,hl with | [_,_,_],_=>⟨_,rfl,rfl,rfl⟩),a4L:=⟨bM,iI,iJ⟩,a4M:=⟨a2S,ayL (ps:=["self", "plan", "room"]) iK (fun us hl=>match us,hl with | [_,_],_=>⟨_,rfl,rfl,rfl⟩)⟩,
    lG:=lG,
    lH:=lH,xZ:=⟨gB,a81,a82⟩,
    fW:=fW,
    dY:=dY,lZ:=⟨dW,a2U,a2V⟩,
    pU:=pU,
    pW:=pW,a3N:=⟨mF,ad4,ad5⟩,
    lJ:=lJ,
    lK:=lK,yC:=⟨gF,a83,a84⟩,
    fH:=fH,
    dH:=dH,jY:=⟨dF,a1U,a1V⟩,
    o7:=o7,
    o8:=o8,a1I:=⟨jM,ac5,ac6⟩,
    mL:=mL,
    mQ:=mQ,a04:=⟨iR,a99,a9A⟩,
    o9:=o9,
    uI:=uI,abL:=⟨jO,ac7,ac8⟩,
    lM:=lM,
    lO:=lO,yD:=⟨gH,a85,a86⟩,
    mR:=mR,
    iY:=iY,rG:=⟨iU,a9B,a9C⟩,
    dI:=dI,
    eY:=eY,
    eZ:=eZ,
    qT:=qT,
    vM:=vM,
    vN:=vN,
    mK:=mK,
    pX:=pX,
    pY:=pY,
    qU:=qU,
    vO:=vO,
    vP:=vP,
    oA:=oA,
    sS:=sS,
    sU:=sU,
    qW:=qW,
    vQ:=vQ,
    vR:=vR,
    iZ:=iZ,
    mU:=mU,
    mV:=mV,
    aAT:=ak4 (st:=aiF) auY aiQ auZ,
    aKR:=amP (ps:=["_law_script"]) (fun us hl=>match us,hl with | [_],_=>rfl),
    aKS:=jw XK GG a8K,
    aM:=⟨a4T,a4U,a4V,a4W⟩,abM:=⟨a4X,bM,iI,a4Y⟩,abN:=jw XK GG a4S,
    cB:=oG,
    rH:=rN,
    bK:=oH,
    a6C:=jw XK GG zB,
    lQ:=lQ,
    j5:=j5,
    j6:=j6,
    j7:=j7,
    abO:=jw XK GG ac2,
    uJ:=uJ,
    pB:=pB,
    pC:=pC,
    pD:=pD,
    afV:=jw XK GG ag8,
    z7:=z7,
    uK:=uK,
    uL:=uL,
    uM:=uM,
    afW:=jw XK GG ag9,
    z8:=z8,
    uN:=uN,
    uO:=uO,
    uP:=uP,
    a4N:=jw XK GG a4Z,
    n8:=n8,
    jZ:=jZ,
    kJ:=kJ,
    kW:=kW,
    abP:=jw XK GG ac3,
    uQ:=uQ,
    nM:=nM,
    pF:=pF,
    nO:=nO,
    aiR:=⟨a7X,a7Y,a7Z,
    nO,a80,
    nM⟩,
    sY:=sY,
    a1J:=jw XK GG a1T,
    kY:=kY,
    fJ:=fJ,
    iG:=iG,
    fK:=fK,
    a8O:=⟨zG,zH,zJ,
    fK,zK,
    fJ⟩,
    lR:=lR,
    cA:=cA,
    dM:=dM,
    gO:=gO,
    gP:=gP,
    fC:=fC,
    fD:=fD,
    cX:=cX,
    bN:=bN,
    cJ:=cJ,
    dN:=dN,
    dO:=dO,
    cY:=cY,
    cZ:=cZ,
    cD:=cD,
    j8:=⟨ad1,jw XK GG j8⟩,
    j9:=⟨ad2,jw XK GG j9⟩,
    jA:=⟨ad3,jw XK GG jA⟩,
    pG:=⟨alH,jw XK GG pG⟩,
    eF:=⟨aj8,jw XK GG eF⟩,
    a6D:=jo XK GG zL,
    auC:=jo XK GG alI,
    auD:=jo XK GG alJ,
    an4:=jo XK GG av0,
    oE:=jo XK GG zM,
    aeA:=jo XK GG av1,
    auE:=jo XK GG alK,
    aAU:=jo XK GG av2,
    aAV:=jo XK GG av3,
    an5:=jo XK GG agA,
    a1K:=jo XK GG ac4,
    auF:=jo XK GG av4,
    afX:=jo XK GG agB }
  exact ⟨_,fun s v => .of_eq rfl,fun base _ _=>(aG4 T).imp (azN T)⟩
theorem walk {q:Program} {loose:List Str} {XP:(Str->Option Value)->Heap->Prop} {YP:World->Heap->Prop} {d:DefRec} {K:Params->cu} (hn:l.most=some 63) (hdf:d.params.defaults=[])
    (hY:∀ (w:World) (h:Heap),YP w h->(K w.params).In h)
    (F:∀ (w:World) (mg:Str->Option Value) (fa:Addr) (h:Heap),(K w.params).In h->h.Ns mainGlobals mg->mg d.name=some (.ref fa) ->
      ∃ fd:FuncData,(∀ (s:Shared) (u:Value),BindsTo s fd ⟨[u],[]⟩ [("_law_script",u)])/\∀ base:Heap,(K w.params).In base->base.Ns mainGlobals mg->cM false l.prog w (K w.params) mg base (oJ l.prog w) 10 fa fd ["_law_script"] (anF (K w.params))) :
    PySem.W.WalkO q loose XP YP l.row.toRowW d [] (fun f vs=>PySem.call f vs) :=
  L2.awB (n:=63) (k:=10) (x := "_law_script") (CX:=fun w=>oJ l.prog w) (sp:=fun w=>anF (K w.params)) hn (by decide) hdf ⟨fun _=>rfl,by decide,by decide⟩ hY F (fun _ _ a ns hl _ hS=>⟨a,ns,rfl,hS,hl,fun _=>rfl⟩) fun _ _ _ _ _ ⟨_,_,_,_,_,_,_,_,_,_,_,_,z⟩=>z
end Law
open PySem PySem.W PyProof.Rows
theorem PySem.Challenge.cw_depot_k23_whole_no_grain_lost_holds : PySem.Challenge.rw_depot_k23_whole_no_grain_lost.Holds := by
  w_on;o_law;o_head (PySem.W.kHook Law.frK.heap_39 Law.frA Law.frE)
  case hl=>exact Law.frL
  case hw=>w_witness2
  k_fill
  refine Law.walk (l:=PySem.Challenge.rw_depot_k23_whole_no_grain_lost) rfl rfl (fun w h Y=>PySem.W.kIn_of Y) ?F
  case F =>
    intro w mg fa h KX G hmg;refine' Law.all_mk KX G hmg ?a4O ?a7S ?a1N ?a7T ?a1O ?abX ?a4P ?a4Q ?wH ?abY ?a4R ?bM ?iI ?nC ?eX ?iJ ?iK ?pI ?m6 ?wI ?pJ ?kZ ?uT ?rJ ?uU ?pK ?rK ?uV ?a1Q ?wJ ?a1R ?zA ?a1S ?rM ?a8K ?auY ?aiQ ?auZ ?a4S ?a4T ?a4U ?a4V ?a4W ?a4X ?a4Y ?oG ?rN ?oH ?zB ?lQ ?j5 ?j6 ?j7 ?ac2 ?uJ ?pB ?pC ?pD ?ag8 ?z7 ?uK ?uL ?uM ?ag9 ?z8 ?uN ?uO ?uP ?a4Z ?n8 ?jZ ?kJ ?kW ?ac3 ?uQ ?nM ?pF ?nO ?a7X ?a7Y ?a7Z ?a80 ?sY ?a1T ?kY ?fJ ?iG ?fK ?zG ?zH ?zJ ?zK ?lR ?cA ?dM ?gO ?gP ?fC ?fD ?cX ?bN ?cJ ?dN ?dO ?cY ?cZ ?cD ?j8 ?j9 ?jA ?pG ?eF ?zL ?alI ?alJ ?av0 ?zM ?av1 ?alK ?av2 ?av3 ?agA ?ac4 ?av4 ?agB
    case a4S=>k_is
    case a4O | a7S | a1N | a7T | a1O | abX | a4P | a4Q | wH | abY | a4R=>exact ⟨by k_is,_,_,_,_,_,_,_,_,_,by k_is,by k_is,by k_is⟩
    case bM | iI | nC | eX | iJ | iK=>k_is
    case pI | m6 | wI | pJ | kZ | uT | rJ | uU | pK | rK=>exact ⟨by k_is,by k_is,_,_,_,_,_,_,_,_,_,by k_is,by k_is,by k_is⟩
    case uV | a1Q | wJ | a1R | zA | a1S | rM=>exact ⟨by k_is,_,_,_,_,_,_,_,_,_,by k_is,by k_is,by k_is⟩
    case a8K | auY | aiQ | auZ | a4T | a4U | a4V | a4W | a4X | a4Y | oG | rN | oH | zB=>k_is
    case lQ=>k_exc
    case j5=>kernel_rfl
    case j6 | j7 | ac2=>k_is
    case uJ=>k_exc
    case pB=>kernel_rfl
    case pC | pD | ag8=>k_is
    case z7=>k_exc
    case uK=>kernel_rfl
    case uL | uM | ag9=>k_is
    case z8=>k_exc
    case uN=>kernel_rfl
    case uO | uP | a4Z=>k_is
    case n8=>k_exc
    case jZ=>kernel_rfl
    case kJ | kW | ac3=>k_is
    case uQ=>k_exc
    case nM=>kernel_rfl
    case pF | nO | a7X | a7Y | a7Z | a80=>k_is
    case sY=>kit_is
    case a1T=>k_is
    case kY=>k_exc
    case fJ=>kernel_rfl
    case iG | fK | zG | zH | zJ | zK=>k_is
    case lR=>kit_is
    case cA=>k_is
    case dM | gO | gP | fC | fD | cX=>kit_is
    case bN=>k_is
    case cJ | dN | dO | cY | cZ | cD=>kit_is
    case j8 | j9 | jA | pG | eF | zL | alI | alJ | av0 | zM | av1 | alK | av2 | av3 | agA | ac4 | av4 | agB=>k_is
